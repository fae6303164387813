/-
  Contracts of functions that the statement reaches, and what they are made of, callees first.
-/
import Derived.Laws.StructEq
import Derived.Test.YtilcoimelnpkeaaGreatDoorPza
import Derived.Test.YtilcoimelnpkeaaGreatDoorPzs
set_option maxRecDepth 100000
set_option maxHeartbeats 8000000
namespace Go.Proofs.YtilcoimelnpkeaaGreatDoor
open Go.RowKit
def x32 (f:Nat→Int):Array Value:=((List.range 32).map fun i=>Value.int .u32 (f i)).toArray
theorem x32_size (f:Nat→Int):(x32 f).size=32:=by simp[x32]
theorem x32_ext {f g:Nat→Int} (h:∀ i,i<32→f i=g i):x32 f=x32 g:=by
 unfold x32
 congr 1
 apply List.map_congr_left
 intro i hi
 rw[h i (List.mem_range.1 hi)]
theorem x32_range {w:World} {b:Nat} {f:Nat→Int} {u:Bool} {t:TypeId} (h:w.heap[b]?=some (.cells (z0c f u) t)):w.rangeAt b 0 (x32 f).toList:=range_cut 32 h rfl
theorem info32:(Tryz.prog.info? 34).map (·.size)=some 32:=by kernel_rfl
theorem undX32:Tryz.prog.underlying 34=some (.array 32 31):=by kernel_rfl
theorem eqX32 (f:Nat→Int) (w:World):(Op.equalIn 10000 34 (.agg (x32 f)) (.agg (x32 f))).run Tryz.prog w=.ok true w:=by
 have u3:=Tryz.underlying31
 have a3:=Tryz.isAgg31
 have z3:=Tryz.sizeOf31
 have e:x32 f=#[.int .u32 (f 0),.int .u32 (f 1),.int .u32 (f 2),.int .u32 (f 3),.int .u32 (f 4),.int .u32 (f 5),.int .u32 (f 6),.int .u32 (f 7),.int .u32 (f 8),.int .u32 (f 9),.int .u32 (f 10),.int .u32 (f 11),.int .u32 (f 12),.int .u32 (f 13),.int .u32 (f 14),.int .u32 (f 15),.int .u32 (f 16),.int .u32 (f 17),.int .u32 (f 18),.int .u32 (f 19),.int .u32 (f 20),.int .u32 (f 21),.int .u32 (f 22),.int .u32 (f 23),.int .u32 (f 24),.int .u32 (f 25),.int .u32 (f 26),.int .u32 (f 27),.int .u32 (f 28),.int .u32 (f 29),.int .u32 (f 30),.int .u32 (f 31)]:=rfl
 rw[e,show (10000:Nat)=9999+1 from rfl,Op.equalIn]
 simp only[Sem.run_bind,run_underlying undX32,Result.andThen_ok]
 simp only[Std.Legacy.Range.forIn_eq_forIn_range',Std.Legacy.Range.size,Nat.sub_zero,Nat.add_sub_cancel,Nat.div_one,List.range'_succ,List.range'_zero,List.forIn_cons,List.forIn_nil]
 go_simp
theorem neqX32 (f:Nat→Int) (w:World):(binOp .neq 34 (.agg (x32 f)) (.agg (x32 f))).run Tryz.prog w=.ok (.bool false) w:=by
 have h:∀ w,(Op.equalIn Op.maxDepth 34 (.agg (x32 f)) (.agg (x32 f))).run Tryz.prog w=.ok true w:=eqX32 f
 simp[binOp,Op.equal,h]
theorem run_mids {P:Program} {o:Oper} {a:Act} {w:World} (ty:TypeId) (x:Operand) (ho:o.op=.load ty x) (b k:Nat) (hx:a.eval x=.pointer (some ⟨b,k,none⟩)) (cs:Array Value) (d:TypeDesc) (hc:w.rangeAt b k cs.toList)
  (hu:P.underlying ty=some d) (hd:d.isRow=true) (hi:(P.info? ty).map (·.size)=some cs.size):(execOp a.eval o).run P w=.ok (.value (.agg cs)) w:=by
 unfold execOp
 have:=run_loadVar_mid (P:=P) w b k ty cs.toList d hc hu hd (by rw[Array.length_toList];exact hi)
 rw[Array.toArray_toList] at this
 simp only[ho,hx,Instr.loadAt,Instr.sureAddr,Sem.run_bind,Sem.run_pure,Result.andThen_ok,this]
theorem run_reg_is {o:Oper} {a:Act} {w:World} {x:Operand} (ho:o.op=.load 31 x) {b:Nat} (i:Nat) (hx:a.eval x=.pointer (some ⟨b,i,none⟩)) {f:Nat→Int} {u:Bool} {t:TypeId} (hw:w.heap[b]?=some (.cells (z0c f u) t)) (hi:i<57) (h3:i≠33) {y:Int} (hy:f i=y):(execOp a.eval o).run Tryz.prog w=.ok (.value (.int .u32 y)) w:=by
 subst hy
 unfold execOp
 have hv:(z0c f u)[i]?=some (.int .u32 (f i)):=by rw[z2d f u i hi];unfold rv;rw[if_neg h3]
 simp only[ho,hx,Sem.run_bind,Sem.run_pure,Result.andThen_ok,load_u32 ((z0a hw).1 i _ hv)]
theorem run_user_is {o:Oper} {a:Act} {w:World} {x:Operand} (ho:o.op=.load 4 x) {b:Nat} (hx:a.eval x=.pointer (some ⟨b,33,none⟩)) {f:Nat→Int} {u:Bool} {t:TypeId} (hw:w.heap[b]?=some (.cells (z0c f u) t)) {v:Bool} (hv:u=v):(execOp a.eval o).run Tryz.prog w=.ok (.value (.bool v)) w:=by
 subst hv
 unfold execOp
 have hv:(z0c f u)[33]?=some (.bool u):=rfl
 simp only[ho,hx,Sem.run_bind,Sem.run_pure,Result.andThen_ok,load_bool ((z0a hw).1 33 _ hv)]
theorem run_word_is {o:Oper} {a:Act} {w:World} {x:Operand} (ho:o.op=.load 31 x) {b:Nat} (i:Nat) (hx:a.eval x=.pointer (some ⟨b,i,none⟩)) {cs:Array Value} {t:TypeId} (hw:w.heap[b]?=some (.cells cs t)) {v:Value} (hv:cs[i]?=some v):(execOp a.eval o).run Tryz.prog w=.ok (.value v) w:=by
 unfold execOp
 simp only[ho,hx,Sem.run_bind,Sem.run_pure,Result.andThen_ok,load_u32 ((z0a hw).1 i _ hv)]
structure Away (F:Nat→Prop) (w:World) (b:Nat):Prop where
 lt:b<w.heap.size
 no:¬F b
theorem Away.next {F F':Nat→Prop} {w w':World} {b:Nat} (h:Away F w b) (c:Chg F w w') (f:∀ k,F' k→F k∨w.heap.size≤k):Away F' w' b:=
 ⟨Nat.lt_of_lt_of_le h.lt c.size,fun e=>(f b e).elim h.no (fun q=>by have:=h.lt;omega)⟩
theorem Away.below {F:Nat→Prop} {w w':World} {b:Nat} (h:Away F w b) (c:Below w.heap.size w w'):Away F w' b:=⟨Nat.lt_of_lt_of_le h.lt c.size,h.no⟩
def insL:Array Value:=#[.string ⟨#[108,119]⟩,.int .i64 1,.int .i64 2,.int .i64 0,.int .i32 0,.string ⟨#[108,104]⟩,.int .i64 1,.int .i64 2,.int .i64 0,.int .i32 0,.string ⟨#[115,119]⟩,.int .i64 0,.int .i64 2,.int .i64 3,.int .i32 0,.string ⟨#[115,104]⟩,.int .i64 0,.int .i64 2,.int .i64 3,.int .i32 0,.string ⟨#[101,99,97,108,108]⟩,.int .i64 0,.int .i64 0,.int .i64 0,.int .i32 0,.string ⟨#[101,98,114,101,97,107]⟩,.int .i64 0,.int .i64 0,.int .i64 0,.int .i32 0,.string ⟨#[108,119]⟩,.int .i64 1,.int .i64 4,.int .i64 0,.int .i32 0,.string ⟨#[115,119]⟩,.int .i64 0,.int .i64 4,.int .i64 3,.int .i32 0,.string ⟨#[99,115,114,114,119]⟩,.int .i64 1,.int .i64 2,.int .i64 0,.int .i32 5,.string ⟨#[99,115,114,114,119]⟩,.int .i64 1,.int .i64 2,.int .i64 0,.int .i32 3072]
theorem fault_at (k:Nat) (hk:k<10):∃ S d a b m,(∀ (V:World) (B:Nat) (t:TypeId),V.heap[B]?=some (.cells insL t)→V.rangeAt B (k*5) (#[Value.string S,.int .i64 d,.int .i64 a,.int .i64 b,.int .i32 m]:Array Value).toList)∧putN ⟨S.toList,d,a,b,m⟩=putN (insF.getD k ⟨[],0,0,0,0⟩):=by
 rcases (by omega:k=0∨k=1∨k=2∨k=3∨k=4∨k=5∨k=6∨k=7∨k=8∨k=9) with rfl | rfl | rfl | rfl | rfl | rfl | rfl | rfl | rfl | rfl
 ·exact⟨⟨#[108,119]⟩,1,2,0,0,fun V B t h=>range_cut 5 h rfl,by rw[ByteArray.toList_eq];rfl⟩
 ·exact⟨⟨#[108,104]⟩,1,2,0,0,fun V B t h=>range_cut 5 h rfl,by rw[ByteArray.toList_eq];rfl⟩
 ·exact⟨⟨#[115,119]⟩,0,2,3,0,fun V B t h=>range_cut 5 h rfl,by rw[ByteArray.toList_eq];rfl⟩
 ·exact⟨⟨#[115,104]⟩,0,2,3,0,fun V B t h=>range_cut 5 h rfl,by rw[ByteArray.toList_eq];rfl⟩
 ·exact⟨⟨#[101,99,97,108,108]⟩,0,0,0,0,fun V B t h=>range_cut 5 h rfl,by rw[ByteArray.toList_eq];rfl⟩
 ·exact⟨⟨#[101,98,114,101,97,107]⟩,0,0,0,0,fun V B t h=>range_cut 5 h rfl,by rw[ByteArray.toList_eq];rfl⟩
 ·exact⟨⟨#[108,119]⟩,1,4,0,0,fun V B t h=>range_cut 5 h rfl,by rw[ByteArray.toList_eq];rfl⟩
 ·exact⟨⟨#[115,119]⟩,0,4,3,0,fun V B t h=>range_cut 5 h rfl,by rw[ByteArray.toList_eq];rfl⟩
 ·exact⟨⟨#[99,115,114,114,119]⟩,1,2,0,5,fun V B t h=>range_cut 5 h rfl,by rw[ByteArray.toList_eq];rfl⟩
 ·exact⟨⟨#[99,115,114,114,119]⟩,1,2,0,3072,fun V B t h=>range_cut 5 h rfl,by rw[ByteArray.toList_eq];rfl⟩
theorem fault_cause (k:Nat) (hk:k<10):(#[.int .u32 4,.int .u32 4,.int .u32 6,.int .u32 6,.int .u32 11,.int .u32 3,.int .u32 5,.int .u32 7,.int .u32 2,.int .u32 2]:Array Value)[k]?=some (.int .u32 ([4,4,6,6,11,3,5,7,2,2].getD k 0)):=by
 rcases (by omega:k=0∨k=1∨k=2∨k=3∨k=4∨k=5∨k=6∨k=7∨k=8∨k=9) with rfl | rfl | rfl | rfl | rfl | rfl | rfl | rfl | rfl | rfl <;> rfl
theorem fault_val (k:Nat) (hk:k<10) (odd far W:Int) (hW:W=putN (insF.getD k ⟨[],0,0,0,0⟩)):(#[.int .u32 odd,.int .u32 odd,.int .u32 odd,.int .u32 odd,.int .u32 0,.int .u32 8,.int .u32 far,.int .u32 far,.int .u32 W,.int .u32 W]:Array Value)[k]?=some (.int .u32 (valF k odd far)):=by
 rcases (by omega:k=0∨k=1∨k=2∨k=3∨k=4∨k=5∨k=6∨k=7∨k=8∨k=9) with rfl | rfl | rfl | rfl | rfl | rfl | rfl | rfl | rfl | rfl
 all_goals first | rfl | (rw[hW];rfl)
theorem odd_of {x:Int} (hx:U32 x):bits .or .u32 x 1%2=1∧U32 (bits .or .u32 x 1):=by
 obtain⟨X,rfl⟩:=Int.eq_ofNat_of_zero_le hx.1
 have h1:X<4294967296:=by have:=hx.2;omega
 have e:=u32_or_nat X 1 h1 (by decide)
 rw[show ((1:Nat):Int)=1 from rfl] at e
 rw[e]
 have h2:(X ||| 1)<2 ^ 32:=Nat.or_lt_two_pow (by omega) (by decide)
 have h3:(X ||| 1)%2=1:=by
  rcases (by omega:X%2=0∨X%2=1) with h | h <;> simp[Nat.or_mod_two_eq_one]
 exact⟨by omega,⟨by omega,by omega⟩⟩
theorem faultskm {Is:z6d} (K:CoreK Is) (which x odd far:Int) (k:Nat) (hk:k<10) (h4:k≠4) (hwh:0≤which∧which≤255) (hx:U32 x) (hwk:which.tmod 10=(k:Int)) (ho:bits .or .u32 x 1=odd) (hf:1048576+x%4*4=far) (w:World) :
  Calls Tryz.prog 7 #[.int .u8 which,.int .u32 x,.bool false] w fun e w'=>e=.returned (.bool true)∧Below w.heap.size w w':=by
 have HK:Hid _:=K
 have t1:x.tmod 4=x%4:=Int.tmod_eq_emod_of_nonneg hx.1
 have od:=odd_of hx
 rw[ho] at od
 have hfar:1048576≤far∧far<1048592∧far%4=0:=by omega
 have i5:(0:Int)≤(k:Int):=by omega
 have i7:(k:Int)<10:=by omega
 have h4b:((k:Int)==4)=false:=by simp;omega
 obtain⟨S,d,a,b,m,hI,hS⟩:=fault_at k (by omega)
 obtain⟨W,hW⟩:∃ W,W=putN (insF.getD k ⟨[],0,0,0,0⟩):=⟨_,rfl⟩
 have CW:Hid (∀ V:World,Calls Tryz.prog 12 #[.agg #[.string S,.int .i64 d,.int .i64 a,.int .i64 b,.int .i32 m]] V fun e w'=>e=.returned (.int .u32 W)∧Below V.heap.size V w'):=fun V=>by
  have:=kWord S d a b m V
  rw[hS,← hW] at this
  exact this
 obtain⟨s,p1,r1⟩:=fault_plain (x:=x) (odd:=odd) (far:=far) (u:=false) od.1 od.2 hfar k (by omega) hW
 have P1:Hid _:=p1
 have R1:Hid _:=r1
 have HI:Hid _:=hI
 have HV:Hid _:=fault_val k (by omega) odd far W hW
 have HCA:Hid _:=fault_cause k (by omega)
 have hWu:U32 W:=by rw[hW];exact putN_u _
 have HU:Hid (∀ j,U32 (z0p [1,2,W,4,5,6] j)):=word_u fun z hz=>by
  simp only[List.mem_cons,List.not_mem_nil,or_false] at hz
  rcases hz with rfl | rfl | rfl | rfl | rfl | rfl
  all_goals first | exact hWu | exact⟨by decide,by decide⟩
 have HF:Hid (∀ i,U32 (faultF x odd far i)):=z4m (z4m (z4m (z4m (z4m (z4m (z4m (fun _=>(⟨by decide,by decide⟩:U32 0)) 32 ⟨by decide,by decide⟩) 36 ⟨by decide,by decide⟩) 42 ⟨by decide,by decide⟩) 1 ⟨by decide,by decide⟩) 2 od.2) 3 hx) 4 ⟨by omega,by omega⟩
 have hq:=eqPtr2
 have hmo:Tryz.prog.follows .mixedOrders=true:=by kernel_rfl
 obtain⟨fi,hfi⟩:=undIns
 have HFI:Hid _:=hfi
 obtain⟨fs,hfs⟩:=z3f
 have HS:Hid _:=hfs
 have I0:Hid (((w.alloc (.cells insL 24)).alloc (.cells #[.int .u32 4,.int .u32 4,.int .u32 6,.int .u32 6,.int .u32 11,.int .u32 3,.int .u32 5,.int .u32 7,.int .u32 2,.int .u32 2] 31)).heap[w.heap.size]?=some (.cells insL 24)):=z0m ((Below.refl _ _).alloc (Nat.le_refl _) _)
 have C0:Hid (((w.alloc (.cells insL 24)).alloc (.cells #[.int .u32 4,.int .u32 4,.int .u32 6,.int .u32 6,.int .u32 11,.int .u32 3,.int .u32 5,.int .u32 7,.int .u32 2,.int .u32 2] 31)).heap[w.heap.size+1]?=some (.cells #[.int .u32 4,.int .u32 4,.int .u32 6,.int .u32 6,.int .u32 11,.int .u32 3,.int .u32 5,.int .u32 7,.int .u32 2,.int .u32 2] 31)):=by
  have:=z0g (w.alloc (.cells insL 24)) (.cells #[.int .u32 4,.int .u32 4,.int .u32 6,.int .u32 6,.int .u32 11,.int .u32 3,.int .u32 5,.int .u32 7,.int .u32 2,.int .u32 2] 31)
  rw[World.size_alloc] at this
  exact this
 have B0:Hid (Below w.heap.size w ((w.alloc (.cells insL 24)).alloc (.cells #[.int .u32 4,.int .u32 4,.int .u32 6,.int .u32 6,.int .u32 11,.int .u32 3,.int .u32 5,.int .u32 7,.int .u32 2,.int .u32 2] 31))):=box2
 have HFAR:Hid _:=hfar
 clear K p1 r1 hI hW hfi hfs hS hWu
 go_enter Tryz.func7,Tryz.ntmps7
 go_wp2_with fail
 refine z1b 16 [] [.int .u32 odd,.int .u32 odd,.int .u32 odd,.int .u32 odd,.int .u32 far,.int .u32 far,.slice (some ⟨w.heap.size,0,none⟩) 10 10,.int .i64 (k:Int),.pointer (some ⟨w.heap.size,(k*5),none⟩),.agg #[.string S,.int .i64 d,.int .i64 a,.int .i64 b,.int .i32 m],.int .u32 W,.slice (some ⟨w.heap.size,0,none⟩) 10 10,.int .i64 (k:Int),.pointer (some ⟨w.heap.size,(k*5),none⟩),.agg #[.string S,.int .i64 d,.int .i64 a,.int .i64 b,.int .i32 m],.int .u32 W] hmo (by kernel_rfl) (by kernel_rfl) (by intro r hr;cases hr) ?_ (by intro r hr;cases hr) (by intro r hr;cases hr) ?_
 ·generalize hl:lay _ _ _=af
  have e7:af.tmps[7]?.getD undef=.int .u32 odd:=by rw[← hl];kernel_rfl
  have e10:af.tmps[10]?.getD undef=.int .u32 far:=by rw[← hl];kernel_rfl
  have e8:af.tmps[8]?.getD undef=.slice (some ⟨w.heap.size,0,none⟩) 10 10:=by rw[← hl];kernel_rfl
  have e9:af.tmps[9]?.getD undef=.int .i64 (k:Int):=by rw[← hl];kernel_rfl
  have e52:af.tmps[52]?.getD undef=.slice (some ⟨w.heap.size,0,none⟩) 10 10:=by rw[← hl];kernel_rfl
  have e53:af.tmps[53]?.getD undef=.int .i64 (k:Int):=by rw[← hl];kernel_rfl
  have e55:af.tmps[55]?.getD undef=.agg #[.string S,.int .i64 d,.int .i64 a,.int .i64 b,.int .i32 m]:=by rw[← hl];kernel_rfl
  have e57:af.tmps[57]?.getD undef=.slice (some ⟨w.heap.size,0,none⟩) 10 10:=by rw[← hl];kernel_rfl
  have e58:af.tmps[58]?.getD undef=.int .i64 (k:Int):=by rw[← hl];kernel_rfl
  have e60:af.tmps[60]?.getD undef=.agg #[.string S,.int .i64 d,.int .i64 a,.int .i64 b,.int .i32 m]:=by rw[← hl];kernel_rfl
  have v54:af.eval (.tmp 54)=.pointer (some ⟨w.heap.size,(k*5),none⟩):=by rw[← hl];kernel_rfl
  have v59:af.eval (.tmp 59)=.pointer (some ⟨w.heap.size,(k*5),none⟩):=by rw[← hl];kernel_rfl
  clear hl
  refine And.intro (fun w' hw=>z0d (by simp[execOp,go_sem,e7])) ?_
  refine And.intro (fun w' hw=>z0d (by simp[execOp,go_sem,e7])) ?_
  refine And.intro (fun w' hw=>z0d (by simp[execOp,go_sem,e7])) ?_
  refine And.intro (fun w' hw=>z0d (by simp[execOp,go_sem,e7])) ?_
  refine And.intro (fun w' hw=>z0d (by simp[execOp,go_sem,e10])) ?_
  refine And.intro (fun w' hw=>z0d (by simp[execOp,go_sem,e10])) ?_
  refine And.intro (fun w' hw=>z0d (by simp[execOp,go_sem,e8])) ?_
  refine And.intro (fun w' hw=>z0d (by simp[execOp,go_sem,e9])) ?_
  refine And.intro (fun w' hw=>z0d (by simp[execOp,go_sem,e52,e53,i5,i7])) ?_
  refine And.intro (fun w' hw=>z8x 24 (.tmp 54) rfl w.heap.size (k*5) v54 #[.string S,.int .i64 d,.int .i64 a,.int .i64 b,.int .i32 m] _ (HI.out _ _ _ (z0f I0.out hw)) HFI.out rfl infoIns) ?_
  refine And.intro (fun w' hw=>z1k 12 #[.agg #[.string S,.int .i64 d,.int .i64 a,.int .i64 b,.int .i32 m]] (by simp[go_sem,e55]) (CW.out _)) ?_
  refine And.intro (fun w' hw=>z0d (by simp[execOp,go_sem,e8])) ?_
  refine And.intro (fun w' hw=>z0d (by simp[execOp,go_sem,e9])) ?_
  refine And.intro (fun w' hw=>z0d (by simp[execOp,go_sem,e57,e58,i5,i7])) ?_
  refine And.intro (fun w' hw=>z8x 24 (.tmp 59) rfl w.heap.size (k*5) v59 #[.string S,.int .i64 d,.int .i64 a,.int .i64 b,.int .i32 m] _ (HI.out _ _ _ (z0f I0.out hw)) HFI.out rfl infoIns) ?_
  refine And.intro (fun w' hw=>z1k 12 #[.agg #[.string S,.int .i64 d,.int .i64 a,.int .i64 b,.int .i32 m]] (by simp[go_sem,e60]) (CW.out _)) ?_
  exact True.intro
 ·intro β3 W3 hW3 _ _
  have I3:=z0f I0.out hW3
  have C3:=z0f C0.out hW3
  have B3:Hid _:=z0e B0.out hW3
  clear hW3 I0 C0 B0
  simp[z3o,lay,Act.put]
  have V4:=z0g W3 (.cells #[.int .u32 odd,.int .u32 odd,.int .u32 odd,.int .u32 odd,.int .u32 0,.int .u32 8,.int .u32 far,.int .u32 far,.int .u32 W,.int .u32 W] 31)
  have a4:Below W3.heap.size W3 (W3.alloc (.cells #[.int .u32 odd,.int .u32 odd,.int .u32 odd,.int .u32 odd,.int .u32 0,.int .u32 8,.int .u32 far,.int .u32 far,.int .u32 W,.int .u32 W] 31)):=(Below.refl _ _).alloc (Nat.le_refl _) _
  have I4:=z0f I3 a4
  have C4:=z0f C3 a4
  have B4:Hid _:=z0e B3.out a4
  clear a4 I3 C3 B3
  obtain⟨c0,hc0⟩:∃ c0:Int,c0=([4,4,6,6,11,3,5,7,2,2].getD k 0):=⟨_,rfl⟩
  have HCB:Hid ((#[.int .u32 4,.int .u32 4,.int .u32 6,.int .u32 6,.int .u32 11,.int .u32 3,.int .u32 5,.int .u32 7,.int .u32 2,.int .u32 2]:Array Value)[k]?=some (.int .u32 c0)):=by rw[hc0];exact HCA.out
  have HC0:Hid _:=hc0
  clear HCA hc0
  go_wp2_with (first | (refine z8k (v:=.int .u32 c0) rfl rfl rfl C4 HCB.out ?_) | (refine z0w (by rfl) 24 (.tmp 75) rfl w.heap.size (k*5) rfl #[.string S,.int .i64 d,.int .i64 a,.int .i64 b,.int .i32 m] _ (HI.out _ _ _ I4) HFI.out rfl infoIns ?_))
  refine (CW.out _).mono ?_
  rintro e w5 ⟨rfl,b5⟩
  have I5:=z0f I4 b5
  have V5:=z0f V4 b5
  have B5:Hid _:=z0e B4.out b5
  clear b5 I4 V4 B4 C4 HCB
  generalize W3.heap.size=vb at *
  go_wp2_with fail
  have L6:(w5.alloc (.cells #[.int .u32 1,.int .u32 2,.int .u32 W,.int .u32 4,.int .u32 5,.int .u32 6] 31)).heap[w5.heap.size]?=some (.cells (wordsC [1,2,W,4,5,6]) 31):=z0g w5 _
  have a6:Below w5.heap.size w5 (w5.alloc (.cells #[.int .u32 1,.int .u32 2,.int .u32 W,.int .u32 4,.int .u32 5,.int .u32 6] 31)):=(Below.refl _ _).alloc (Nat.le_refl _) _
  have I6:=z0f I5 a6
  have V6:=z0f V5 a6
  have B6:Hid _:=z0e B5.out a6
  clear a6 I5 V5 B5
  generalize w5.alloc (.cells #[.int .u32 1,.int .u32 2,.int .u32 W,.int .u32 4,.int .u32 5,.int .u32 6] 31)=w6 at *
  have hc:=words_cells L6
  have hb:=(Array.getElem?_eq_some_iff.1 L6).1
  refine Calls.mono (One.new HK.out w5.heap.size 0 6 [1,2,W,4,5,6] (.slice none 0 0) [] B6.out (show 0<6 by decide) (show 6≤1000 by decide) HU.out hb hc (no_late _) (by decide)) ?_
  rintro e w7 ⟨p,F7,rfl,o7,b7,q7⟩
  have O7:Hid (One Is w [] p 6 0 w7 F7 (newC undef undef) [1,2,W,4,5,6] []):=o7
  have I7:=z0f I6 b7
  have V7:=z0f V6 b7
  have AI7:Hid (Away F7 w7 w.heap.size):=⟨(Array.getElem?_eq_some_iff.1 I7).1,fun e=>by have:=q7 _ e;have:=(Array.getElem?_eq_some_iff.1 I6).1;omega⟩
  have AV7:Hid (Away F7 w7 vb):=⟨(Array.getElem?_eq_some_iff.1 V7).1,fun e=>by have:=q7 _ e;have:=(Array.getElem?_eq_some_iff.1 V6).1;omega⟩
  have NR:Hid (¬F7 w7.heap.size):=fun e=>Nat.lt_irrefl _ (HK.out.lt o7.imp _ e)
  clear hc hb o7 b7 q7 I6 V6 B6 L6
  go_wp2_with (first | (go_at_call 13;refine (zErr6 _ _).mono ?_;rintro e wq ⟨rfl,hwq⟩;rw[hwq];clear hwq wq) | (refine z4p rfl 37 (.tmp 16) (.tmp 90) rfl rfl (z0c (set1 (set1 (fun _=>0) 32 8) 36 16) false) rfl 37 _ (by rw[z0b];exact z0o) (by rw[z8d,z0b,z0b]) (z0s _ _) ?_))
  intro w8 R8 b8
  go_wp2_with (first | (refine z0h rfl rfl rfl rfl (by assumption) (by decide) (by decide) ?_;intro wn Rn HO HL;have Bn:=HL w7.heap.size w7 (Nat.le_refl _) (by assumption);clear HO HL) | (refine z7d (by rfl) 37 (.tmp 16) rfl w7.heap.size rfl 37 (z0c (faultF x odd far) false) _ (by assumption) HS.out rfl (by rw[z0b];exact z0o) ?_))
  have O9:Hid _:=O7.out.below HK.out Bn
  have I9:=z0f I7 Bn
  have V9:=z0f V7 Bn
  have R9:wn.heap[w7.heap.size]?=some (.cells (z0c (faultF x odd far) false) 37):=Rn
  have AI9:Hid _:=AI7.out.below Bn
  have AV9:Hid _:=AV7.out.below Bn
  have AR9:Hid (Away F7 wn w7.heap.size):=⟨(Array.getElem?_eq_some_iff.1 R9).1,NR.out⟩
  clear Bn Rn b8 R8 O7 I7 V7 AI7 AV7 NR
  generalize w7.heap.size=rb at *
  refine Calls.mono (One.put HK.out O9.out (faultF x odd far) false HF.out) ?_
  rintro e w10 ⟨rfl,F10,o10,c10,f10⟩
  have O10:Hid (One Is w [] p 6 0 w10 F10 (begC (faultF x odd far) false) [1,2,W,4,5,6] []):=o10
  have I10:=c10.kept I9 AI9.out.no
  have V10:=c10.kept V9 AV9.out.no
  have R10:=c10.kept R9 AR9.out.no
  have AI10:Hid _:=AI9.out.next c10 f10
  have AV10:Hid _:=AV9.out.next c10 f10
  have AR10:Hid _:=AR9.out.next c10 f10
  clear o10 c10 f10 O9 I9 V9 R9 AI9 AV9 AR9
  go_wp2_with fail
  have st:=One.step HK.out O10.out (by decide) (by decide) (by decide) no_lates
  rw[P1.out,show (begC (faultF x odd far) false).stop=false from rfl] at st
  refine Calls.mono st ?_
  rintro e w11 ⟨rfl,F11,o11,c11,f11⟩
  have O11:Hid (One Is w [] p 6 1 w11 F11 s [1,2,W,4,5,6] []):=o11
  have I11:=c11.kept I10 AI10.out.no
  have V11:=c11.kept V10 AV10.out.no
  have R11:=c11.kept R10 AR10.out.no
  clear o11 c11 f11 O10 I10 V10 R10 AI10 AV10 AR10 st
  go_wp2_with fail
  refine Calls.mono (HK.out.regs O11.out.imp) ?_
  rintro e w12 ⟨rfl,b12⟩
  have O12:Hid _:=O11.out.below HK.out b12
  have I12:=z0f I11 b12
  have V12:=z0f V11 b12
  have R12:=z0f R11 b12
  clear b12 O11 I11 V11 R11
  go_wp2_with (first | (refine z4p rfl 37 (.tmp 18) (.tmp 110) rfl rfl (z0c _ _) rfl 37 _ (by rw[z0b];exact z0o) (by rw[z8d,z0b,z0b]) (z0s _ _) ?_))
  intro w13 S13 b13
  have O13:Hid _:=O12.out.below HK.out b13
  have I13:Hid _:=z0f I12 b13
  have V13:Hid _:=z0f V12 b13
  have R13:Hid _:=z0f R12 b13
  have S13h:Hid _:=S13
  clear b13 O12 I12 V12 R12 S13
  generalize w12.heap.size=sb at *
  have hnx:=neqX32 (faultF x odd far)
  have X1:Hid (x32 s.f=x32 (faultF x odd far)):=x32_ext R1.out.x
  have KC:Hid (s.f 39=c0):=by rw[HC0.out,R1.out.cause];unfold causeF;rw[if_neg h4];exact rfl
  obtain⟨vv,hvv⟩:∃ vv,vv=valF k odd far:=⟨_,rfl⟩
  have HVV:Hid ((#[.int .u32 odd,.int .u32 odd,.int .u32 odd,.int .u32 odd,.int .u32 0,.int .u32 8,.int .u32 far,.int .u32 far,.int .u32 W,.int .u32 W]:Array Value)[k]?=some (.int .u32 vv)):=by rw[hvv];exact HV.out
  have KV:Hid (s.f 40=vv):=by rw[hvv];exact R1.out.val
  clear hvv HV
  have HTT:Hid (s.t=4):=R1.out.t
  have HST:=R1
  clear HST
  go_wp2_with fail
  refine wp_region_noPanic ?_
  refine wp_region_held_drew (S:=fun V=>V.heap[sb]?=some (.cells (z0c s.f s.u) 37)∧V.heap[rb]?=some (.cells (z0c (faultF x odd far) false) 37)∧V.heap[vb]?=some (.cells #[.int .u32 odd,.int .u32 odd,.int .u32 odd,.int .u32 odd,.int .u32 0,.int .u32 8,.int .u32 far,.int .u32 far,.int .u32 W,.int .u32 W] 31)∧Below w13.heap.size w13 V) (by kernel_rfl) ⟨S13h.out,R13.out,V13.out,(Below.refl _ _).drew⟩ (fun hHeld=>?_)
  refine z0n 0 (some 111) (v:=?_) rfl rfl (by kernel_rfl) (by kernel_rfl) (by kernel_rfl) (fun _ _ _ h=>h) (Or.inl ⟨by rfl,?_⟩) (by assumption) ?_
  rotate_left
  ·intro w' hSw
   go_simp
   try with_reducible rfl
  simp only[Act.put,List.setIfInBounds_toArray,List.set_cons_zero,List.set_cons_succ]
  refine z0n 1 (some 112) (v:=?_) rfl rfl (by kernel_rfl) (by kernel_rfl) (by kernel_rfl) (fun _ _ _ h=>h) (Or.inl ⟨by rfl,?_⟩) (by assumption) ?_
  rotate_left
  ·intro w' hSw
   go_simp
   try with_reducible rfl
  simp only[Act.put,List.setIfInBounds_toArray,List.set_cons_zero,List.set_cons_succ]
  refine z0n 2 (some 113) (v:=?_) rfl rfl (by kernel_rfl) (by kernel_rfl) (by kernel_rfl) (fun _ _ _ h=>h) (Or.inl ⟨by rfl,?_⟩) (by assumption) ?_
  rotate_left
  ·intro w' hSw
   go_simp
   try with_reducible rfl
  simp only[Act.put,List.setIfInBounds_toArray,List.set_cons_zero,List.set_cons_succ]
  refine z0n 3 (some 114) (v:=?_) rfl rfl (by kernel_rfl) (by kernel_rfl) (by kernel_rfl) (fun _ _ _ h=>h) (Or.inl ⟨by rfl,?_⟩) (by assumption) ?_
  rotate_left
  ·intro w' hSw
   go_simp
   try with_reducible rfl
  simp only[Act.put,List.setIfInBounds_toArray,List.set_cons_zero,List.set_cons_succ]
  refine z0n 4 (some 115) (v:=.agg (x32 (faultF x odd far))) rfl rfl (by kernel_rfl) (by kernel_rfl) (by kernel_rfl) (fun _ _ _ h=>h) (Or.inl ⟨by rfl,fun w' hSw=>run_mids 34 (.tmp 114) rfl sb 0 rfl (x32 (faultF x odd far)) _ (by rw[← X1.out];exact x32_range hSw.1) undX32 rfl (by rw[x32_size];exact info32)⟩) (by assumption) ?_
  simp only[Act.put,List.setIfInBounds_toArray,List.set_cons_zero,List.set_cons_succ]
  refine z0n 5 (some 116) (v:=?_) rfl rfl (by kernel_rfl) (by kernel_rfl) (by kernel_rfl) (fun _ _ _ h=>h) (Or.inl ⟨by rfl,?_⟩) (by assumption) ?_
  rotate_left
  ·intro w' hSw
   go_simp
   try with_reducible rfl
  simp only[Act.put,List.setIfInBounds_toArray,List.set_cons_zero,List.set_cons_succ]
  refine z0n 6 (some 117) (v:=.agg (x32 (faultF x odd far))) rfl rfl (by kernel_rfl) (by kernel_rfl) (by kernel_rfl) (fun _ _ _ h=>h) (Or.inl ⟨by rfl,fun w' hSw=>run_mids 34 (.tmp 116) rfl rb 0 rfl (x32 (faultF x odd far)) _ (x32_range hSw.2.1) undX32 rfl (by rw[x32_size];exact info32)⟩) (by assumption) ?_
  simp only[Act.put,List.setIfInBounds_toArray,List.set_cons_zero,List.set_cons_succ]
  refine z0n 7 (some 118) (v:=?_) rfl rfl (by kernel_rfl) (by kernel_rfl) (by kernel_rfl) (fun _ _ _ h=>h) (Or.inl ⟨by rfl,?_⟩) (by assumption) ?_
  rotate_left
  ·intro w' hSw
   go_simp
   try with_reducible rfl
  simp only[Act.put,List.setIfInBounds_toArray,List.set_cons_zero,List.set_cons_succ]
  refine z0n 8 (some 119) (v:=?_) rfl rfl (by kernel_rfl) (by kernel_rfl) (by kernel_rfl) (fun _ _ _ h=>h) (Or.inl ⟨by rfl,?_⟩) (by assumption) ?_
  rotate_left
  ·intro w' hSw
   go_simp
   try with_reducible rfl
  simp only[Act.put,List.setIfInBounds_toArray,List.set_cons_zero,List.set_cons_succ]
  refine z0n 9 (some 120) (v:=?_) rfl rfl (by kernel_rfl) (by kernel_rfl) (by kernel_rfl) (fun _ _ _ h=>h) (Or.inl ⟨by rfl,?_⟩) (by assumption) ?_
  rotate_left
  ·intro w' hSw
   go_simp
   try with_reducible rfl
  simp only[Act.put,List.setIfInBounds_toArray,List.set_cons_zero,List.set_cons_succ]
  refine z0n 10 (some 121) (v:=?_) rfl rfl (by kernel_rfl) (by kernel_rfl) (by kernel_rfl) (fun _ _ _ h=>h) (Or.inl ⟨by rfl,?_⟩) (by assumption) ?_
  rotate_left
  ·intro w' hSw
   go_simp
   try with_reducible rfl
  simp only[Act.put,List.setIfInBounds_toArray,List.set_cons_zero,List.set_cons_succ]
  refine z0n 11 (some 122) (v:=.int .u32 16) rfl rfl (by kernel_rfl) (by kernel_rfl) (by kernel_rfl) (fun _ _ _ h=>h) (Or.inl ⟨by rfl,fun w' hSw=>run_reg_is rfl 32 rfl hSw.1 (by decide) (by decide) R1.out.pc⟩) (by assumption) ?_
  simp only[Act.put,List.setIfInBounds_toArray,List.set_cons_zero,List.set_cons_succ]
  refine z0n 12 (some 123) (v:=?_) rfl rfl (by kernel_rfl) (by kernel_rfl) (by kernel_rfl) (fun _ _ _ h=>h) (Or.inl ⟨by rfl,?_⟩) (by assumption) ?_
  rotate_left
  ·intro w' hSw
   go_simp
   try with_reducible rfl
  simp only[Act.put,List.setIfInBounds_toArray,List.set_cons_zero,List.set_cons_succ]
  refine z0n 13 (some 124) (v:=?_) rfl rfl (by kernel_rfl) (by kernel_rfl) (by kernel_rfl) (fun _ _ _ h=>h) (Or.inl ⟨by rfl,?_⟩) (by assumption) ?_
  rotate_left
  ·intro w' hSw
   go_simp
   try with_reducible rfl
  simp only[Act.put,List.setIfInBounds_toArray,List.set_cons_zero,List.set_cons_succ]
  refine z0n 14 (some 125) (v:=?_) rfl rfl (by kernel_rfl) (by kernel_rfl) (by kernel_rfl) (fun _ _ _ h=>h) (Or.inl ⟨by rfl,?_⟩) (by assumption) ?_
  rotate_left
  ·intro w' hSw
   go_simp
   try with_reducible rfl
  simp only[Act.put,List.setIfInBounds_toArray,List.set_cons_zero,List.set_cons_succ]
  refine z0n 15 (some 126) (v:=?_) rfl rfl (by kernel_rfl) (by kernel_rfl) (by kernel_rfl) (fun _ _ _ h=>h) (Or.inl ⟨by rfl,?_⟩) (by assumption) ?_
  rotate_left
  ·intro w' hSw
   go_simp
   try with_reducible rfl
  simp only[Act.put,List.setIfInBounds_toArray,List.set_cons_zero,List.set_cons_succ]
  refine z0n 16 (some 127) (v:=.bool false) rfl rfl (by kernel_rfl) (by kernel_rfl) (by kernel_rfl) (fun _ _ _ h=>h) (Or.inl ⟨by rfl,fun w' hSw=>run_user_is rfl rfl hSw.1 R1.out.u⟩) (by assumption) ?_
  simp only[Act.put,List.setIfInBounds_toArray,List.set_cons_zero,List.set_cons_succ]
  refine z0n 17 (some 128) (v:=?_) rfl rfl (by kernel_rfl) (by kernel_rfl) (by kernel_rfl) (fun _ _ _ h=>h) (Or.inl ⟨by rfl,?_⟩) (by assumption) ?_
  rotate_left
  ·intro w' hSw
   go_simp
   try with_reducible rfl
  simp only[Act.put,List.setIfInBounds_toArray,List.set_cons_zero,List.set_cons_succ]
  refine z0n 18 (some 129) (v:=?_) rfl rfl (by kernel_rfl) (by kernel_rfl) (by kernel_rfl) (fun _ _ _ h=>h) (Or.inl ⟨by rfl,?_⟩) (by assumption) ?_
  rotate_left
  ·intro w' hSw
   go_simp
   try with_reducible rfl
  simp only[Act.put,List.setIfInBounds_toArray,List.set_cons_zero,List.set_cons_succ]
  refine z0n 19 (some 130) (v:=?_) rfl rfl (by kernel_rfl) (by kernel_rfl) (by kernel_rfl) (fun _ _ _ h=>h) (Or.inl ⟨by rfl,?_⟩) (by assumption) ?_
  rotate_left
  ·intro w' hSw
   go_simp
   try with_reducible rfl
  simp only[Act.put,List.setIfInBounds_toArray,List.set_cons_zero,List.set_cons_succ]
  refine z0n 20 (some 131) (v:=.int .u32 c0) rfl rfl (by kernel_rfl) (by kernel_rfl) (by kernel_rfl) (fun _ _ _ h=>h) (Or.inl ⟨by rfl,fun w' hSw=>run_reg_is rfl 39 rfl hSw.1 (by decide) (by decide) KC.out⟩) (by assumption) ?_
  simp only[Act.put,List.setIfInBounds_toArray,List.set_cons_zero,List.set_cons_succ]
  refine z0n 21 (some 132) (v:=?_) rfl rfl (by kernel_rfl) (by kernel_rfl) (by kernel_rfl) (fun _ _ _ h=>h) (Or.inl ⟨by rfl,?_⟩) (by assumption) ?_
  rotate_left
  ·intro w' hSw
   go_simp
   try with_reducible rfl
  simp only[Act.put,List.setIfInBounds_toArray,List.set_cons_zero,List.set_cons_succ]
  refine z0n 22 (some 133) (v:=?_) rfl rfl (by kernel_rfl) (by kernel_rfl) (by kernel_rfl) (fun _ _ _ h=>h) (Or.inl ⟨by rfl,?_⟩) (by assumption) ?_
  rotate_left
  ·intro w' hSw
   go_simp
   try with_reducible rfl
  simp only[Act.put,List.setIfInBounds_toArray,List.set_cons_zero,List.set_cons_succ]
  refine z0n 23 (some 134) (v:=?_) rfl rfl (by kernel_rfl) (by kernel_rfl) (by kernel_rfl) (fun _ _ _ h=>h) (Or.inl ⟨by rfl,?_⟩) (by assumption) ?_
  rotate_left
  ·intro w' hSw
   go_simp
   try with_reducible rfl
  simp only[Act.put,List.setIfInBounds_toArray,List.set_cons_zero,List.set_cons_succ]
  refine z0n 24 (some 135) (v:=?_) rfl rfl (by kernel_rfl) (by kernel_rfl) (by kernel_rfl) (fun _ _ _ h=>h) (Or.inl ⟨by rfl,?_⟩) (by assumption) ?_
  rotate_left
  ·intro w' hSw
   go_simp
   try with_reducible rfl
  simp only[Act.put,List.setIfInBounds_toArray,List.set_cons_zero,List.set_cons_succ]
  refine z0n 25 (some 136) (v:=?_) rfl rfl (by kernel_rfl) (by kernel_rfl) (by kernel_rfl) (fun _ _ _ h=>h) (Or.inl ⟨by rfl,?_⟩) (by assumption) ?_
  rotate_left
  ·intro w' hSw
   go_simp
   try with_reducible rfl
  simp only[Act.put,List.setIfInBounds_toArray,List.set_cons_zero,List.set_cons_succ]
  refine z0n 26 (some 137) (v:=.int .u32 vv) rfl rfl (by kernel_rfl) (by kernel_rfl) (by kernel_rfl) (fun _ _ _ h=>h) (Or.inl ⟨by rfl,fun w' hSw=>run_reg_is rfl 40 rfl hSw.1 (by decide) (by decide) KV.out⟩) (by assumption) ?_
  simp only[Act.put,List.setIfInBounds_toArray,List.set_cons_zero,List.set_cons_succ]
  refine z0n 27 (some 138) (v:=?_) rfl rfl (by kernel_rfl) (by kernel_rfl) (by kernel_rfl) (fun _ _ _ h=>h) (Or.inl ⟨by rfl,?_⟩) (by assumption) ?_
  rotate_left
  ·intro w' hSw
   go_simp
   try with_reducible rfl
  simp only[Act.put,List.setIfInBounds_toArray,List.set_cons_zero,List.set_cons_succ]
  refine z0n 28 (some 139) (v:=?_) rfl rfl (by kernel_rfl) (by kernel_rfl) (by kernel_rfl) (fun _ _ _ h=>h) (Or.inl ⟨by rfl,?_⟩) (by assumption) ?_
  rotate_left
  ·intro w' hSw
   go_simp
   try with_reducible rfl
  simp only[Act.put,List.setIfInBounds_toArray,List.set_cons_zero,List.set_cons_succ]
  refine z0n 29 (some 140) (v:=?_) rfl rfl (by kernel_rfl) (by kernel_rfl) (by kernel_rfl) (fun _ _ _ h=>h) (Or.inl ⟨by rfl,?_⟩) (by assumption) ?_
  rotate_left
  ·intro w' hSw
   go_simp
   try with_reducible rfl
  simp only[Act.put,List.setIfInBounds_toArray,List.set_cons_zero,List.set_cons_succ]
  refine z0n 30 (some 141) (v:=.int .u32 vv) rfl rfl (by kernel_rfl) (by kernel_rfl) (by kernel_rfl) (fun _ _ _ h=>h) (Or.inl ⟨by rfl,fun w' hSw=>run_word_is rfl k rfl hSw.2.2.1 HVV.out⟩) (by assumption) ?_
  simp only[Act.put,List.setIfInBounds_toArray,List.set_cons_zero,List.set_cons_succ]
  refine z0n 31 (some 142) (v:=?_) rfl rfl (by kernel_rfl) (by kernel_rfl) (by kernel_rfl) (fun _ _ _ h=>h) (Or.inl ⟨by rfl,?_⟩) (by assumption) ?_
  rotate_left
  ·intro w' hSw
   go_simp
   try with_reducible rfl
  simp only[Act.put,List.setIfInBounds_toArray,List.set_cons_zero,List.set_cons_succ]
  refine z0n 32 (some 143) (v:=?_) rfl rfl (by kernel_rfl) (by kernel_rfl) (by kernel_rfl) (fun _ _ _ h=>h) (Or.inl ⟨by rfl,?_⟩) (by assumption) ?_
  rotate_left
  ·intro w' hSw
   go_simp
   try with_reducible rfl
  simp only[Act.put,List.setIfInBounds_toArray,List.set_cons_zero,List.set_cons_succ]
  refine z0n 33 (some 144) (v:=?_) rfl rfl (by kernel_rfl) (by kernel_rfl) (by kernel_rfl) (fun _ _ _ h=>h) (Or.inl ⟨by rfl,?_⟩) (by assumption) ?_
  rotate_left
  ·intro w' hSw
   go_simp
   try with_reducible rfl
  simp only[Act.put,List.setIfInBounds_toArray,List.set_cons_zero,List.set_cons_succ]
  refine z0n 34 (some 145) (v:=?_) rfl rfl (by kernel_rfl) (by kernel_rfl) (by kernel_rfl) (fun _ _ _ h=>h) (Or.inl ⟨by rfl,?_⟩) (by assumption) ?_
  rotate_left
  ·intro w' hSw
   go_simp
   try with_reducible rfl
  simp only[Act.put,List.setIfInBounds_toArray,List.set_cons_zero,List.set_cons_succ]
  refine z0n 35 (some 146) (v:=.int .u32 8) rfl rfl (by kernel_rfl) (by kernel_rfl) (by kernel_rfl) (fun _ _ _ h=>h) (Or.inl ⟨by rfl,fun w' hSw=>run_reg_is rfl 38 rfl hSw.1 (by decide) (by decide) R1.out.epc⟩) (by assumption) ?_
  simp only[Act.put,List.setIfInBounds_toArray,List.set_cons_zero,List.set_cons_succ]
  refine z0n 36 (some 147) (v:=?_) rfl rfl (by kernel_rfl) (by kernel_rfl) (by kernel_rfl) (fun _ _ _ h=>h) (Or.inl ⟨by rfl,?_⟩) (by assumption) ?_
  rotate_left
  ·intro w' hSw
   go_simp
   try with_reducible rfl
  simp only[Act.put,List.setIfInBounds_toArray,List.set_cons_zero,List.set_cons_succ]
  refine z0n 37 (some 148) (v:=?_) rfl rfl (by kernel_rfl) (by kernel_rfl) (by kernel_rfl) (fun _ _ _ h=>h) (Or.inl ⟨by rfl,?_⟩) (by assumption) ?_
  rotate_left
  ·intro w' hSw
   go_simp
   try with_reducible rfl
  simp only[Act.put,List.setIfInBounds_toArray,List.set_cons_zero,List.set_cons_succ]
  refine z0n 38 (some 149) (v:=?_) rfl rfl (by kernel_rfl) (by kernel_rfl) (by kernel_rfl) (fun _ _ _ h=>h) (Or.inl ⟨by rfl,?_⟩) (by assumption) ?_
  rotate_left
  ·intro w' hSw
   go_simp
   try with_reducible rfl
  simp only[Act.put,List.setIfInBounds_toArray,List.set_cons_zero,List.set_cons_succ]
  refine z0n 39 (some 150) (v:=?_) rfl rfl (by kernel_rfl) (by kernel_rfl) (by kernel_rfl) (fun _ _ _ h=>h) (Or.inl ⟨by rfl,?_⟩) (by assumption) ?_
  rotate_left
  ·intro w' hSw
   go_simp
   try with_reducible rfl
  simp only[Act.put,List.setIfInBounds_toArray,List.set_cons_zero,List.set_cons_succ]
  have ct:=fun V (hV:Below w13.heap.size w13 V)=>HK.out.time (O13.out.below HK.out hV).imp
  rw[HTT.out] at ct
  refine z5q 40 (some 151) 17 #[.pointer (some ⟨p,0,none⟩)] rfl rfl (by rfl) (by kernel_rfl) (by kernel_rfl) (Calls.mono (ct _ hHeld.2.2.2) ?_)
  rintro e w14 ⟨rfl,b14⟩
  have hH2:=hHeld
  clear hHeld
  refine⟨_,rfl,⟨z0f hH2.1 b14,z0f hH2.2.1 b14,z0f hH2.2.2.1 b14,z0e hH2.2.2.2 b14⟩,fun hHeld=>?_⟩
  simp only[Act.put,List.setIfInBounds_toArray,List.set_cons_zero,List.set_cons_succ]
  refine z0n 41 (some 152) (v:=?_) rfl rfl (by kernel_rfl) (by kernel_rfl) (by kernel_rfl) (fun _ _ _ h=>h) (Or.inl ⟨by rfl,?_⟩) (by assumption) ?_
  rotate_left
  ·intro w' hSw
   go_simp
   try with_reducible rfl
  simp only[Act.put,List.setIfInBounds_toArray,List.set_cons_zero,List.set_cons_succ]
  refine z0n 42 (some 153) (v:=?_) rfl rfl (by kernel_rfl) (by kernel_rfl) (by kernel_rfl) (fun _ _ _ h=>h) (Or.inl ⟨by rfl,?_⟩) (by assumption) ?_
  rotate_left
  ·intro w' hSw
   go_simp
   try with_reducible rfl
  simp only[Act.put,List.setIfInBounds_toArray,List.set_cons_zero,List.set_cons_succ]
  refine wpAnyH_done (by kernel_rfl) ?_ _
  refine NoPanic.normal ?_
  have B14:Hid _:=hHeld.2.2.2
  have I14:Hid _:=z0f I13.out B14.out
  have O14:Hid _:=O13.out.below HK.out B14.out
  clear hHeld B14 I13 O13 S13h R13 V13
  go_wp2_with fail
  go_loopw [19] (fun i wr=>∃ j:Nat,j≤6∧i=.int .i64 j∧Hid (Below w14.heap.size w14 wr)) (fun i _=>6-(intOf i).toNat)
  case atStart=>exact⟨0,Nat.zero_le _,rfl,Below.refl _ _⟩
  case round=>
   obtain⟨j,hj,rfl,hbr⟩:=hrel
   have O15:Hid _:=O14.out.below HK.out hbr.out
   have I15:Hid _:=z0f I14.out hbr.out
   by_cases hlt:j<6
   ·have v1:4*(j:Int)%4294967296=4*(j:Int):=by omega
    have v2:wrap64 (4*(j:Int))=4*(j:Int):=z0y (by omega) (by omega)
    have j0:(0:Int)≤(j:Int):=by omega
    have j1:(j:Int)<6:=by omega
    have cw:=O15.out.word HK.out j hlt (by decide) (4*(j:Int)) rfl
    have HY:Hid ((wordsC [1,2,W,4,5,6])[j]?=some (.int .u32 (z0p [1,2,W,4,5,6] j))):=wordsC_at _ j hlt
    have CW2:Hid _:=cw
    clear cw
    generalize z0p [1,2,W,4,5,6] j=y at *
    go_wp2_with fail
    refine Calls.mono CW2.out ?_
    rintro e w16 ⟨rfl,b16⟩
    have I16:=z0f I15.out b16
    have B16:Hid _:=z0e hbr.out b16
    clear b16 I15 O15 CW2 hbr
    go_wp2_with (first | (refine z0w (by rfl) 24 (.tmp 168) rfl w.heap.size (k*5) rfl #[.string S,.int .i64 d,.int .i64 a,.int .i64 b,.int .i32 m] _ (HI.out _ _ _ I16) HFI.out rfl infoIns ?_))
    refine (CW.out _).mono ?_
    rintro e w17 ⟨rfl,b17⟩
    have B17:Hid _:=z0e B16.out b17
    have B18:Hid (Below w14.heap.size w14 (w17.alloc (.cells #[.int .u32 1,.int .u32 2,.int .u32 W,.int .u32 4,.int .u32 5,.int .u32 6] 31))):=B17.out.alloc B17.out.size _
    clear b17 I16 B16
    go_wp2_with (first | (go_at_call 13;refine (zErr6 _ _).mono ?_;rintro e wq ⟨rfl,hwq⟩;rw[hwq];clear hwq wq) | (refine z8k (v:=.int .u32 y) rfl rfl rfl (show _=some (.cells (wordsC [1,2,W,4,5,6]) 31) from z0g w17 _) HY.out ?_))
    exact⟨⟨j+1,hlt,by go_num,B18.out⟩,by simp[intOf];omega⟩
   ·have hj6:j=6:=by omega
    subst hj6
    go_wp2_with fail
    refine Calls.mono (kawake6 HK.out _) ?_
    rintro e w16 ⟨rfl,b16⟩
    have O16:Hid _:=O15.out.below HK.out b16
    go_wp2
    go_ret
    exact⟨rfl,O16.out.bel⟩
theorem faultsku {Is:z6d} (K:CoreK Is) (which x odd far:Int) (k:Nat) (hk:k<10) (h4:k≠4) (hwh:0≤which∧which≤255) (hx:U32 x) (hwk:which.tmod 10=(k:Int)) (ho:bits .or .u32 x 1=odd) (hf:1048576+x%4*4=far) (w:World) :
  Calls Tryz.prog 7 #[.int .u8 which,.int .u32 x,.bool true] w fun e w'=>e=.returned (.bool true)∧Below w.heap.size w w':=by
 have HK:Hid _:=K
 have t1:x.tmod 4=x%4:=Int.tmod_eq_emod_of_nonneg hx.1
 have od:=odd_of hx
 rw[ho] at od
 have hfar:1048576≤far∧far<1048592∧far%4=0:=by omega
 have i5:(0:Int)≤(k:Int):=by omega
 have i7:(k:Int)<10:=by omega
 have h4b:((k:Int)==4)=false:=by simp;omega
 obtain⟨S,d,a,b,m,hI,hS⟩:=fault_at k (by omega)
 obtain⟨W,hW⟩:∃ W,W=putN (insF.getD k ⟨[],0,0,0,0⟩):=⟨_,rfl⟩
 have CW:Hid (∀ V:World,Calls Tryz.prog 12 #[.agg #[.string S,.int .i64 d,.int .i64 a,.int .i64 b,.int .i32 m]] V fun e w'=>e=.returned (.int .u32 W)∧Below V.heap.size V w'):=fun V=>by
  have:=kWord S d a b m V
  rw[hS,← hW] at this
  exact this
 obtain⟨s,p1,r1⟩:=fault_plain (x:=x) (odd:=odd) (far:=far) (u:=true) od.1 od.2 hfar k (by omega) hW
 have P1:Hid _:=p1
 have R1:Hid _:=r1
 have HI:Hid _:=hI
 have HV:Hid _:=fault_val k (by omega) odd far W hW
 have HCA:Hid _:=fault_cause k (by omega)
 have hWu:U32 W:=by rw[hW];exact putN_u _
 have HU:Hid (∀ j,U32 (z0p [1,2,W,4,5,6] j)):=word_u fun z hz=>by
  simp only[List.mem_cons,List.not_mem_nil,or_false] at hz
  rcases hz with rfl | rfl | rfl | rfl | rfl | rfl
  all_goals first | exact hWu | exact⟨by decide,by decide⟩
 have HF:Hid (∀ i,U32 (faultF x odd far i)):=z4m (z4m (z4m (z4m (z4m (z4m (z4m (fun _=>(⟨by decide,by decide⟩:U32 0)) 32 ⟨by decide,by decide⟩) 36 ⟨by decide,by decide⟩) 42 ⟨by decide,by decide⟩) 1 ⟨by decide,by decide⟩) 2 od.2) 3 hx) 4 ⟨by omega,by omega⟩
 have hq:=eqPtr2
 have hmo:Tryz.prog.follows .mixedOrders=true:=by kernel_rfl
 obtain⟨fi,hfi⟩:=undIns
 have HFI:Hid _:=hfi
 obtain⟨fs,hfs⟩:=z3f
 have HS:Hid _:=hfs
 have I0:Hid (((w.alloc (.cells insL 24)).alloc (.cells #[.int .u32 4,.int .u32 4,.int .u32 6,.int .u32 6,.int .u32 11,.int .u32 3,.int .u32 5,.int .u32 7,.int .u32 2,.int .u32 2] 31)).heap[w.heap.size]?=some (.cells insL 24)):=z0m ((Below.refl _ _).alloc (Nat.le_refl _) _)
 have C0:Hid (((w.alloc (.cells insL 24)).alloc (.cells #[.int .u32 4,.int .u32 4,.int .u32 6,.int .u32 6,.int .u32 11,.int .u32 3,.int .u32 5,.int .u32 7,.int .u32 2,.int .u32 2] 31)).heap[w.heap.size+1]?=some (.cells #[.int .u32 4,.int .u32 4,.int .u32 6,.int .u32 6,.int .u32 11,.int .u32 3,.int .u32 5,.int .u32 7,.int .u32 2,.int .u32 2] 31)):=by
  have:=z0g (w.alloc (.cells insL 24)) (.cells #[.int .u32 4,.int .u32 4,.int .u32 6,.int .u32 6,.int .u32 11,.int .u32 3,.int .u32 5,.int .u32 7,.int .u32 2,.int .u32 2] 31)
  rw[World.size_alloc] at this
  exact this
 have B0:Hid (Below w.heap.size w ((w.alloc (.cells insL 24)).alloc (.cells #[.int .u32 4,.int .u32 4,.int .u32 6,.int .u32 6,.int .u32 11,.int .u32 3,.int .u32 5,.int .u32 7,.int .u32 2,.int .u32 2] 31))):=box2
 have HFAR:Hid _:=hfar
 clear K p1 r1 hI hW hfi hfs hS hWu
 go_enter Tryz.func7,Tryz.ntmps7
 go_wp2_with fail
 refine z1b 16 [] [.int .u32 odd,.int .u32 odd,.int .u32 odd,.int .u32 odd,.int .u32 far,.int .u32 far,.slice (some ⟨w.heap.size,0,none⟩) 10 10,.int .i64 (k:Int),.pointer (some ⟨w.heap.size,(k*5),none⟩),.agg #[.string S,.int .i64 d,.int .i64 a,.int .i64 b,.int .i32 m],.int .u32 W,.slice (some ⟨w.heap.size,0,none⟩) 10 10,.int .i64 (k:Int),.pointer (some ⟨w.heap.size,(k*5),none⟩),.agg #[.string S,.int .i64 d,.int .i64 a,.int .i64 b,.int .i32 m],.int .u32 W] hmo (by kernel_rfl) (by kernel_rfl) (by intro r hr;cases hr) ?_ (by intro r hr;cases hr) (by intro r hr;cases hr) ?_
 ·generalize hl:lay _ _ _=af
  have e7:af.tmps[7]?.getD undef=.int .u32 odd:=by rw[← hl];kernel_rfl
  have e10:af.tmps[10]?.getD undef=.int .u32 far:=by rw[← hl];kernel_rfl
  have e8:af.tmps[8]?.getD undef=.slice (some ⟨w.heap.size,0,none⟩) 10 10:=by rw[← hl];kernel_rfl
  have e9:af.tmps[9]?.getD undef=.int .i64 (k:Int):=by rw[← hl];kernel_rfl
  have e52:af.tmps[52]?.getD undef=.slice (some ⟨w.heap.size,0,none⟩) 10 10:=by rw[← hl];kernel_rfl
  have e53:af.tmps[53]?.getD undef=.int .i64 (k:Int):=by rw[← hl];kernel_rfl
  have e55:af.tmps[55]?.getD undef=.agg #[.string S,.int .i64 d,.int .i64 a,.int .i64 b,.int .i32 m]:=by rw[← hl];kernel_rfl
  have e57:af.tmps[57]?.getD undef=.slice (some ⟨w.heap.size,0,none⟩) 10 10:=by rw[← hl];kernel_rfl
  have e58:af.tmps[58]?.getD undef=.int .i64 (k:Int):=by rw[← hl];kernel_rfl
  have e60:af.tmps[60]?.getD undef=.agg #[.string S,.int .i64 d,.int .i64 a,.int .i64 b,.int .i32 m]:=by rw[← hl];kernel_rfl
  have v54:af.eval (.tmp 54)=.pointer (some ⟨w.heap.size,(k*5),none⟩):=by rw[← hl];kernel_rfl
  have v59:af.eval (.tmp 59)=.pointer (some ⟨w.heap.size,(k*5),none⟩):=by rw[← hl];kernel_rfl
  clear hl
  refine And.intro (fun w' hw=>z0d (by simp[execOp,go_sem,e7])) ?_
  refine And.intro (fun w' hw=>z0d (by simp[execOp,go_sem,e7])) ?_
  refine And.intro (fun w' hw=>z0d (by simp[execOp,go_sem,e7])) ?_
  refine And.intro (fun w' hw=>z0d (by simp[execOp,go_sem,e7])) ?_
  refine And.intro (fun w' hw=>z0d (by simp[execOp,go_sem,e10])) ?_
  refine And.intro (fun w' hw=>z0d (by simp[execOp,go_sem,e10])) ?_
  refine And.intro (fun w' hw=>z0d (by simp[execOp,go_sem,e8])) ?_
  refine And.intro (fun w' hw=>z0d (by simp[execOp,go_sem,e9])) ?_
  refine And.intro (fun w' hw=>z0d (by simp[execOp,go_sem,e52,e53,i5,i7])) ?_
  refine And.intro (fun w' hw=>z8x 24 (.tmp 54) rfl w.heap.size (k*5) v54 #[.string S,.int .i64 d,.int .i64 a,.int .i64 b,.int .i32 m] _ (HI.out _ _ _ (z0f I0.out hw)) HFI.out rfl infoIns) ?_
  refine And.intro (fun w' hw=>z1k 12 #[.agg #[.string S,.int .i64 d,.int .i64 a,.int .i64 b,.int .i32 m]] (by simp[go_sem,e55]) (CW.out _)) ?_
  refine And.intro (fun w' hw=>z0d (by simp[execOp,go_sem,e8])) ?_
  refine And.intro (fun w' hw=>z0d (by simp[execOp,go_sem,e9])) ?_
  refine And.intro (fun w' hw=>z0d (by simp[execOp,go_sem,e57,e58,i5,i7])) ?_
  refine And.intro (fun w' hw=>z8x 24 (.tmp 59) rfl w.heap.size (k*5) v59 #[.string S,.int .i64 d,.int .i64 a,.int .i64 b,.int .i32 m] _ (HI.out _ _ _ (z0f I0.out hw)) HFI.out rfl infoIns) ?_
  refine And.intro (fun w' hw=>z1k 12 #[.agg #[.string S,.int .i64 d,.int .i64 a,.int .i64 b,.int .i32 m]] (by simp[go_sem,e60]) (CW.out _)) ?_
  exact True.intro
 ·intro β3 W3 hW3 _ _
  have I3:=z0f I0.out hW3
  have C3:=z0f C0.out hW3
  have B3:Hid _:=z0e B0.out hW3
  clear hW3 I0 C0 B0
  simp[z3o,lay,Act.put]
  have V4:=z0g W3 (.cells #[.int .u32 odd,.int .u32 odd,.int .u32 odd,.int .u32 odd,.int .u32 0,.int .u32 8,.int .u32 far,.int .u32 far,.int .u32 W,.int .u32 W] 31)
  have a4:Below W3.heap.size W3 (W3.alloc (.cells #[.int .u32 odd,.int .u32 odd,.int .u32 odd,.int .u32 odd,.int .u32 0,.int .u32 8,.int .u32 far,.int .u32 far,.int .u32 W,.int .u32 W] 31)):=(Below.refl _ _).alloc (Nat.le_refl _) _
  have I4:=z0f I3 a4
  have C4:=z0f C3 a4
  have B4:Hid _:=z0e B3.out a4
  clear a4 I3 C3 B3
  obtain⟨c0,hc0⟩:∃ c0:Int,c0=([4,4,6,6,11,3,5,7,2,2].getD k 0):=⟨_,rfl⟩
  have HCB:Hid ((#[.int .u32 4,.int .u32 4,.int .u32 6,.int .u32 6,.int .u32 11,.int .u32 3,.int .u32 5,.int .u32 7,.int .u32 2,.int .u32 2]:Array Value)[k]?=some (.int .u32 c0)):=by rw[hc0];exact HCA.out
  have HC0:Hid _:=hc0
  clear HCA hc0
  go_wp2_with (first | (refine z8k (v:=.int .u32 c0) rfl rfl rfl C4 HCB.out ?_) | (refine z0w (by rfl) 24 (.tmp 75) rfl w.heap.size (k*5) rfl #[.string S,.int .i64 d,.int .i64 a,.int .i64 b,.int .i32 m] _ (HI.out _ _ _ I4) HFI.out rfl infoIns ?_))
  refine (CW.out _).mono ?_
  rintro e w5 ⟨rfl,b5⟩
  have I5:=z0f I4 b5
  have V5:=z0f V4 b5
  have B5:Hid _:=z0e B4.out b5
  clear b5 I4 V4 B4 C4 HCB
  generalize W3.heap.size=vb at *
  go_wp2_with fail
  have L6:(w5.alloc (.cells #[.int .u32 1,.int .u32 2,.int .u32 W,.int .u32 4,.int .u32 5,.int .u32 6] 31)).heap[w5.heap.size]?=some (.cells (wordsC [1,2,W,4,5,6]) 31):=z0g w5 _
  have a6:Below w5.heap.size w5 (w5.alloc (.cells #[.int .u32 1,.int .u32 2,.int .u32 W,.int .u32 4,.int .u32 5,.int .u32 6] 31)):=(Below.refl _ _).alloc (Nat.le_refl _) _
  have I6:=z0f I5 a6
  have V6:=z0f V5 a6
  have B6:Hid _:=z0e B5.out a6
  clear a6 I5 V5 B5
  generalize w5.alloc (.cells #[.int .u32 1,.int .u32 2,.int .u32 W,.int .u32 4,.int .u32 5,.int .u32 6] 31)=w6 at *
  have hc:=words_cells L6
  have hb:=(Array.getElem?_eq_some_iff.1 L6).1
  refine Calls.mono (One.new HK.out w5.heap.size 0 6 [1,2,W,4,5,6] (.slice none 0 0) [] B6.out (show 0<6 by decide) (show 6≤1000 by decide) HU.out hb hc (no_late _) (by decide)) ?_
  rintro e w7 ⟨p,F7,rfl,o7,b7,q7⟩
  have O7:Hid (One Is w [] p 6 0 w7 F7 (newC undef undef) [1,2,W,4,5,6] []):=o7
  have I7:=z0f I6 b7
  have V7:=z0f V6 b7
  have AI7:Hid (Away F7 w7 w.heap.size):=⟨(Array.getElem?_eq_some_iff.1 I7).1,fun e=>by have:=q7 _ e;have:=(Array.getElem?_eq_some_iff.1 I6).1;omega⟩
  have AV7:Hid (Away F7 w7 vb):=⟨(Array.getElem?_eq_some_iff.1 V7).1,fun e=>by have:=q7 _ e;have:=(Array.getElem?_eq_some_iff.1 V6).1;omega⟩
  have NR:Hid (¬F7 w7.heap.size):=fun e=>Nat.lt_irrefl _ (HK.out.lt o7.imp _ e)
  clear hc hb o7 b7 q7 I6 V6 B6 L6
  go_wp2_with (first | (go_at_call 13;refine (zErr6 _ _).mono ?_;rintro e wq ⟨rfl,hwq⟩;rw[hwq];clear hwq wq) | (refine z4p rfl 37 (.tmp 16) (.tmp 90) rfl rfl (z0c (set1 (set1 (fun _=>0) 32 8) 36 16) true) rfl 37 _ (by rw[z0b];exact z0o) (by rw[z8d,z0b,z0b]) (z0s _ _) ?_))
  intro w8 R8 b8
  go_wp2_with (first | (refine z0h rfl rfl rfl rfl (by assumption) (by decide) (by decide) ?_;intro wn Rn HO HL;have Bn:=HL w7.heap.size w7 (Nat.le_refl _) (by assumption);clear HO HL) | (refine z7d (by rfl) 37 (.tmp 16) rfl w7.heap.size rfl 37 (z0c (faultF x odd far) true) _ (by assumption) HS.out rfl (by rw[z0b];exact z0o) ?_))
  have O9:Hid _:=O7.out.below HK.out Bn
  have I9:=z0f I7 Bn
  have V9:=z0f V7 Bn
  have R9:wn.heap[w7.heap.size]?=some (.cells (z0c (faultF x odd far) true) 37):=Rn
  have AI9:Hid _:=AI7.out.below Bn
  have AV9:Hid _:=AV7.out.below Bn
  have AR9:Hid (Away F7 wn w7.heap.size):=⟨(Array.getElem?_eq_some_iff.1 R9).1,NR.out⟩
  clear Bn Rn b8 R8 O7 I7 V7 AI7 AV7 NR
  generalize w7.heap.size=rb at *
  refine Calls.mono (One.put HK.out O9.out (faultF x odd far) true HF.out) ?_
  rintro e w10 ⟨rfl,F10,o10,c10,f10⟩
  have O10:Hid (One Is w [] p 6 0 w10 F10 (begC (faultF x odd far) true) [1,2,W,4,5,6] []):=o10
  have I10:=c10.kept I9 AI9.out.no
  have V10:=c10.kept V9 AV9.out.no
  have R10:=c10.kept R9 AR9.out.no
  have AI10:Hid _:=AI9.out.next c10 f10
  have AV10:Hid _:=AV9.out.next c10 f10
  have AR10:Hid _:=AR9.out.next c10 f10
  clear o10 c10 f10 O9 I9 V9 R9 AI9 AV9 AR9
  go_wp2_with fail
  have st:=One.step HK.out O10.out (by decide) (by decide) (by decide) no_lates
  rw[P1.out,show (begC (faultF x odd far) true).stop=false from rfl] at st
  refine Calls.mono st ?_
  rintro e w11 ⟨rfl,F11,o11,c11,f11⟩
  have O11:Hid (One Is w [] p 6 1 w11 F11 s [1,2,W,4,5,6] []):=o11
  have I11:=c11.kept I10 AI10.out.no
  have V11:=c11.kept V10 AV10.out.no
  have R11:=c11.kept R10 AR10.out.no
  clear o11 c11 f11 O10 I10 V10 R10 AI10 AV10 AR10 st
  go_wp2_with fail
  refine Calls.mono (HK.out.regs O11.out.imp) ?_
  rintro e w12 ⟨rfl,b12⟩
  have O12:Hid _:=O11.out.below HK.out b12
  have I12:=z0f I11 b12
  have V12:=z0f V11 b12
  have R12:=z0f R11 b12
  clear b12 O11 I11 V11 R11
  go_wp2_with (first | (refine z4p rfl 37 (.tmp 18) (.tmp 110) rfl rfl (z0c _ _) rfl 37 _ (by rw[z0b];exact z0o) (by rw[z8d,z0b,z0b]) (z0s _ _) ?_))
  intro w13 S13 b13
  have O13:Hid _:=O12.out.below HK.out b13
  have I13:Hid _:=z0f I12 b13
  have V13:Hid _:=z0f V12 b13
  have R13:Hid _:=z0f R12 b13
  have S13h:Hid _:=S13
  clear b13 O12 I12 V12 R12 S13
  generalize w12.heap.size=sb at *
  have hnx:=neqX32 (faultF x odd far)
  have X1:Hid (x32 s.f=x32 (faultF x odd far)):=x32_ext R1.out.x
  have KC:Hid (s.f 39=c0):=by rw[HC0.out,R1.out.cause];unfold causeF;rw[if_neg h4];exact rfl
  obtain⟨vv,hvv⟩:∃ vv,vv=valF k odd far:=⟨_,rfl⟩
  have HVV:Hid ((#[.int .u32 odd,.int .u32 odd,.int .u32 odd,.int .u32 odd,.int .u32 0,.int .u32 8,.int .u32 far,.int .u32 far,.int .u32 W,.int .u32 W]:Array Value)[k]?=some (.int .u32 vv)):=by rw[hvv];exact HV.out
  have KV:Hid (s.f 40=vv):=by rw[hvv];exact R1.out.val
  clear hvv HV
  have HTT:Hid (s.t=4):=R1.out.t
  have HST:=R1
  clear HST
  go_wp2_with fail
  refine wp_region_noPanic ?_
  refine wp_region_held_drew (S:=fun V=>V.heap[sb]?=some (.cells (z0c s.f s.u) 37)∧V.heap[rb]?=some (.cells (z0c (faultF x odd far) true) 37)∧V.heap[vb]?=some (.cells #[.int .u32 odd,.int .u32 odd,.int .u32 odd,.int .u32 odd,.int .u32 0,.int .u32 8,.int .u32 far,.int .u32 far,.int .u32 W,.int .u32 W] 31)∧Below w13.heap.size w13 V) (by kernel_rfl) ⟨S13h.out,R13.out,V13.out,(Below.refl _ _).drew⟩ (fun hHeld=>?_)
  refine z0n 0 (some 111) (v:=?_) rfl rfl (by kernel_rfl) (by kernel_rfl) (by kernel_rfl) (fun _ _ _ h=>h) (Or.inl ⟨by rfl,?_⟩) (by assumption) ?_
  rotate_left
  ·intro w' hSw
   go_simp
   try with_reducible rfl
  simp only[Act.put,List.setIfInBounds_toArray,List.set_cons_zero,List.set_cons_succ]
  refine z0n 1 (some 112) (v:=?_) rfl rfl (by kernel_rfl) (by kernel_rfl) (by kernel_rfl) (fun _ _ _ h=>h) (Or.inl ⟨by rfl,?_⟩) (by assumption) ?_
  rotate_left
  ·intro w' hSw
   go_simp
   try with_reducible rfl
  simp only[Act.put,List.setIfInBounds_toArray,List.set_cons_zero,List.set_cons_succ]
  refine z0n 2 (some 113) (v:=?_) rfl rfl (by kernel_rfl) (by kernel_rfl) (by kernel_rfl) (fun _ _ _ h=>h) (Or.inl ⟨by rfl,?_⟩) (by assumption) ?_
  rotate_left
  ·intro w' hSw
   go_simp
   try with_reducible rfl
  simp only[Act.put,List.setIfInBounds_toArray,List.set_cons_zero,List.set_cons_succ]
  refine z0n 3 (some 114) (v:=?_) rfl rfl (by kernel_rfl) (by kernel_rfl) (by kernel_rfl) (fun _ _ _ h=>h) (Or.inl ⟨by rfl,?_⟩) (by assumption) ?_
  rotate_left
  ·intro w' hSw
   go_simp
   try with_reducible rfl
  simp only[Act.put,List.setIfInBounds_toArray,List.set_cons_zero,List.set_cons_succ]
  refine z0n 4 (some 115) (v:=.agg (x32 (faultF x odd far))) rfl rfl (by kernel_rfl) (by kernel_rfl) (by kernel_rfl) (fun _ _ _ h=>h) (Or.inl ⟨by rfl,fun w' hSw=>run_mids 34 (.tmp 114) rfl sb 0 rfl (x32 (faultF x odd far)) _ (by rw[← X1.out];exact x32_range hSw.1) undX32 rfl (by rw[x32_size];exact info32)⟩) (by assumption) ?_
  simp only[Act.put,List.setIfInBounds_toArray,List.set_cons_zero,List.set_cons_succ]
  refine z0n 5 (some 116) (v:=?_) rfl rfl (by kernel_rfl) (by kernel_rfl) (by kernel_rfl) (fun _ _ _ h=>h) (Or.inl ⟨by rfl,?_⟩) (by assumption) ?_
  rotate_left
  ·intro w' hSw
   go_simp
   try with_reducible rfl
  simp only[Act.put,List.setIfInBounds_toArray,List.set_cons_zero,List.set_cons_succ]
  refine z0n 6 (some 117) (v:=.agg (x32 (faultF x odd far))) rfl rfl (by kernel_rfl) (by kernel_rfl) (by kernel_rfl) (fun _ _ _ h=>h) (Or.inl ⟨by rfl,fun w' hSw=>run_mids 34 (.tmp 116) rfl rb 0 rfl (x32 (faultF x odd far)) _ (x32_range hSw.2.1) undX32 rfl (by rw[x32_size];exact info32)⟩) (by assumption) ?_
  simp only[Act.put,List.setIfInBounds_toArray,List.set_cons_zero,List.set_cons_succ]
  refine z0n 7 (some 118) (v:=?_) rfl rfl (by kernel_rfl) (by kernel_rfl) (by kernel_rfl) (fun _ _ _ h=>h) (Or.inl ⟨by rfl,?_⟩) (by assumption) ?_
  rotate_left
  ·intro w' hSw
   go_simp
   try with_reducible rfl
  simp only[Act.put,List.setIfInBounds_toArray,List.set_cons_zero,List.set_cons_succ]
  refine z0n 8 (some 119) (v:=?_) rfl rfl (by kernel_rfl) (by kernel_rfl) (by kernel_rfl) (fun _ _ _ h=>h) (Or.inl ⟨by rfl,?_⟩) (by assumption) ?_
  rotate_left
  ·intro w' hSw
   go_simp
   try with_reducible rfl
  simp only[Act.put,List.setIfInBounds_toArray,List.set_cons_zero,List.set_cons_succ]
  refine z0n 9 (some 120) (v:=?_) rfl rfl (by kernel_rfl) (by kernel_rfl) (by kernel_rfl) (fun _ _ _ h=>h) (Or.inl ⟨by rfl,?_⟩) (by assumption) ?_
  rotate_left
  ·intro w' hSw
   go_simp
   try with_reducible rfl
  simp only[Act.put,List.setIfInBounds_toArray,List.set_cons_zero,List.set_cons_succ]
  refine z0n 10 (some 121) (v:=?_) rfl rfl (by kernel_rfl) (by kernel_rfl) (by kernel_rfl) (fun _ _ _ h=>h) (Or.inl ⟨by rfl,?_⟩) (by assumption) ?_
  rotate_left
  ·intro w' hSw
   go_simp
   try with_reducible rfl
  simp only[Act.put,List.setIfInBounds_toArray,List.set_cons_zero,List.set_cons_succ]
  refine z0n 11 (some 122) (v:=.int .u32 16) rfl rfl (by kernel_rfl) (by kernel_rfl) (by kernel_rfl) (fun _ _ _ h=>h) (Or.inl ⟨by rfl,fun w' hSw=>run_reg_is rfl 32 rfl hSw.1 (by decide) (by decide) R1.out.pc⟩) (by assumption) ?_
  simp only[Act.put,List.setIfInBounds_toArray,List.set_cons_zero,List.set_cons_succ]
  refine z0n 12 (some 123) (v:=?_) rfl rfl (by kernel_rfl) (by kernel_rfl) (by kernel_rfl) (fun _ _ _ h=>h) (Or.inl ⟨by rfl,?_⟩) (by assumption) ?_
  rotate_left
  ·intro w' hSw
   go_simp
   try with_reducible rfl
  simp only[Act.put,List.setIfInBounds_toArray,List.set_cons_zero,List.set_cons_succ]
  refine z0n 13 (some 124) (v:=?_) rfl rfl (by kernel_rfl) (by kernel_rfl) (by kernel_rfl) (fun _ _ _ h=>h) (Or.inl ⟨by rfl,?_⟩) (by assumption) ?_
  rotate_left
  ·intro w' hSw
   go_simp
   try with_reducible rfl
  simp only[Act.put,List.setIfInBounds_toArray,List.set_cons_zero,List.set_cons_succ]
  refine z0n 14 (some 125) (v:=?_) rfl rfl (by kernel_rfl) (by kernel_rfl) (by kernel_rfl) (fun _ _ _ h=>h) (Or.inl ⟨by rfl,?_⟩) (by assumption) ?_
  rotate_left
  ·intro w' hSw
   go_simp
   try with_reducible rfl
  simp only[Act.put,List.setIfInBounds_toArray,List.set_cons_zero,List.set_cons_succ]
  refine z0n 15 (some 126) (v:=?_) rfl rfl (by kernel_rfl) (by kernel_rfl) (by kernel_rfl) (fun _ _ _ h=>h) (Or.inl ⟨by rfl,?_⟩) (by assumption) ?_
  rotate_left
  ·intro w' hSw
   go_simp
   try with_reducible rfl
  simp only[Act.put,List.setIfInBounds_toArray,List.set_cons_zero,List.set_cons_succ]
  refine z0n 16 (some 127) (v:=.bool false) rfl rfl (by kernel_rfl) (by kernel_rfl) (by kernel_rfl) (fun _ _ _ h=>h) (Or.inl ⟨by rfl,fun w' hSw=>run_user_is rfl rfl hSw.1 R1.out.u⟩) (by assumption) ?_
  simp only[Act.put,List.setIfInBounds_toArray,List.set_cons_zero,List.set_cons_succ]
  refine z0n 17 (some 128) (v:=?_) rfl rfl (by kernel_rfl) (by kernel_rfl) (by kernel_rfl) (fun _ _ _ h=>h) (Or.inl ⟨by rfl,?_⟩) (by assumption) ?_
  rotate_left
  ·intro w' hSw
   go_simp
   try with_reducible rfl
  simp only[Act.put,List.setIfInBounds_toArray,List.set_cons_zero,List.set_cons_succ]
  refine z0n 18 (some 129) (v:=?_) rfl rfl (by kernel_rfl) (by kernel_rfl) (by kernel_rfl) (fun _ _ _ h=>h) (Or.inl ⟨by rfl,?_⟩) (by assumption) ?_
  rotate_left
  ·intro w' hSw
   go_simp
   try with_reducible rfl
  simp only[Act.put,List.setIfInBounds_toArray,List.set_cons_zero,List.set_cons_succ]
  refine z0n 19 (some 130) (v:=?_) rfl rfl (by kernel_rfl) (by kernel_rfl) (by kernel_rfl) (fun _ _ _ h=>h) (Or.inl ⟨by rfl,?_⟩) (by assumption) ?_
  rotate_left
  ·intro w' hSw
   go_simp
   try with_reducible rfl
  simp only[Act.put,List.setIfInBounds_toArray,List.set_cons_zero,List.set_cons_succ]
  refine z0n 20 (some 131) (v:=.int .u32 c0) rfl rfl (by kernel_rfl) (by kernel_rfl) (by kernel_rfl) (fun _ _ _ h=>h) (Or.inl ⟨by rfl,fun w' hSw=>run_reg_is rfl 39 rfl hSw.1 (by decide) (by decide) KC.out⟩) (by assumption) ?_
  simp only[Act.put,List.setIfInBounds_toArray,List.set_cons_zero,List.set_cons_succ]
  refine z0n 21 (some 132) (v:=?_) rfl rfl (by kernel_rfl) (by kernel_rfl) (by kernel_rfl) (fun _ _ _ h=>h) (Or.inl ⟨by rfl,?_⟩) (by assumption) ?_
  rotate_left
  ·intro w' hSw
   go_simp
   try with_reducible rfl
  simp only[Act.put,List.setIfInBounds_toArray,List.set_cons_zero,List.set_cons_succ]
  refine z0n 22 (some 133) (v:=?_) rfl rfl (by kernel_rfl) (by kernel_rfl) (by kernel_rfl) (fun _ _ _ h=>h) (Or.inl ⟨by rfl,?_⟩) (by assumption) ?_
  rotate_left
  ·intro w' hSw
   go_simp
   try with_reducible rfl
  simp only[Act.put,List.setIfInBounds_toArray,List.set_cons_zero,List.set_cons_succ]
  refine z0n 23 (some 134) (v:=?_) rfl rfl (by kernel_rfl) (by kernel_rfl) (by kernel_rfl) (fun _ _ _ h=>h) (Or.inl ⟨by rfl,?_⟩) (by assumption) ?_
  rotate_left
  ·intro w' hSw
   go_simp
   try with_reducible rfl
  simp only[Act.put,List.setIfInBounds_toArray,List.set_cons_zero,List.set_cons_succ]
  refine z0n 24 (some 135) (v:=?_) rfl rfl (by kernel_rfl) (by kernel_rfl) (by kernel_rfl) (fun _ _ _ h=>h) (Or.inl ⟨by rfl,?_⟩) (by assumption) ?_
  rotate_left
  ·intro w' hSw
   go_simp
   try with_reducible rfl
  simp only[Act.put,List.setIfInBounds_toArray,List.set_cons_zero,List.set_cons_succ]
  refine z0n 25 (some 136) (v:=?_) rfl rfl (by kernel_rfl) (by kernel_rfl) (by kernel_rfl) (fun _ _ _ h=>h) (Or.inl ⟨by rfl,?_⟩) (by assumption) ?_
  rotate_left
  ·intro w' hSw
   go_simp
   try with_reducible rfl
  simp only[Act.put,List.setIfInBounds_toArray,List.set_cons_zero,List.set_cons_succ]
  refine z0n 26 (some 137) (v:=.int .u32 vv) rfl rfl (by kernel_rfl) (by kernel_rfl) (by kernel_rfl) (fun _ _ _ h=>h) (Or.inl ⟨by rfl,fun w' hSw=>run_reg_is rfl 40 rfl hSw.1 (by decide) (by decide) KV.out⟩) (by assumption) ?_
  simp only[Act.put,List.setIfInBounds_toArray,List.set_cons_zero,List.set_cons_succ]
  refine z0n 27 (some 138) (v:=?_) rfl rfl (by kernel_rfl) (by kernel_rfl) (by kernel_rfl) (fun _ _ _ h=>h) (Or.inl ⟨by rfl,?_⟩) (by assumption) ?_
  rotate_left
  ·intro w' hSw
   go_simp
   try with_reducible rfl
  simp only[Act.put,List.setIfInBounds_toArray,List.set_cons_zero,List.set_cons_succ]
  refine z0n 28 (some 139) (v:=?_) rfl rfl (by kernel_rfl) (by kernel_rfl) (by kernel_rfl) (fun _ _ _ h=>h) (Or.inl ⟨by rfl,?_⟩) (by assumption) ?_
  rotate_left
  ·intro w' hSw
   go_simp
   try with_reducible rfl
  simp only[Act.put,List.setIfInBounds_toArray,List.set_cons_zero,List.set_cons_succ]
  refine z0n 29 (some 140) (v:=?_) rfl rfl (by kernel_rfl) (by kernel_rfl) (by kernel_rfl) (fun _ _ _ h=>h) (Or.inl ⟨by rfl,?_⟩) (by assumption) ?_
  rotate_left
  ·intro w' hSw
   go_simp
   try with_reducible rfl
  simp only[Act.put,List.setIfInBounds_toArray,List.set_cons_zero,List.set_cons_succ]
  refine z0n 30 (some 141) (v:=.int .u32 vv) rfl rfl (by kernel_rfl) (by kernel_rfl) (by kernel_rfl) (fun _ _ _ h=>h) (Or.inl ⟨by rfl,fun w' hSw=>run_word_is rfl k rfl hSw.2.2.1 HVV.out⟩) (by assumption) ?_
  simp only[Act.put,List.setIfInBounds_toArray,List.set_cons_zero,List.set_cons_succ]
  refine z0n 31 (some 142) (v:=?_) rfl rfl (by kernel_rfl) (by kernel_rfl) (by kernel_rfl) (fun _ _ _ h=>h) (Or.inl ⟨by rfl,?_⟩) (by assumption) ?_
  rotate_left
  ·intro w' hSw
   go_simp
   try with_reducible rfl
  simp only[Act.put,List.setIfInBounds_toArray,List.set_cons_zero,List.set_cons_succ]
  refine z0n 32 (some 143) (v:=?_) rfl rfl (by kernel_rfl) (by kernel_rfl) (by kernel_rfl) (fun _ _ _ h=>h) (Or.inl ⟨by rfl,?_⟩) (by assumption) ?_
  rotate_left
  ·intro w' hSw
   go_simp
   try with_reducible rfl
  simp only[Act.put,List.setIfInBounds_toArray,List.set_cons_zero,List.set_cons_succ]
  refine z0n 33 (some 144) (v:=?_) rfl rfl (by kernel_rfl) (by kernel_rfl) (by kernel_rfl) (fun _ _ _ h=>h) (Or.inl ⟨by rfl,?_⟩) (by assumption) ?_
  rotate_left
  ·intro w' hSw
   go_simp
   try with_reducible rfl
  simp only[Act.put,List.setIfInBounds_toArray,List.set_cons_zero,List.set_cons_succ]
  refine z0n 34 (some 145) (v:=?_) rfl rfl (by kernel_rfl) (by kernel_rfl) (by kernel_rfl) (fun _ _ _ h=>h) (Or.inl ⟨by rfl,?_⟩) (by assumption) ?_
  rotate_left
  ·intro w' hSw
   go_simp
   try with_reducible rfl
  simp only[Act.put,List.setIfInBounds_toArray,List.set_cons_zero,List.set_cons_succ]
  refine z0n 35 (some 146) (v:=.int .u32 8) rfl rfl (by kernel_rfl) (by kernel_rfl) (by kernel_rfl) (fun _ _ _ h=>h) (Or.inl ⟨by rfl,fun w' hSw=>run_reg_is rfl 38 rfl hSw.1 (by decide) (by decide) R1.out.epc⟩) (by assumption) ?_
  simp only[Act.put,List.setIfInBounds_toArray,List.set_cons_zero,List.set_cons_succ]
  refine z0n 36 (some 147) (v:=?_) rfl rfl (by kernel_rfl) (by kernel_rfl) (by kernel_rfl) (fun _ _ _ h=>h) (Or.inl ⟨by rfl,?_⟩) (by assumption) ?_
  rotate_left
  ·intro w' hSw
   go_simp
   try with_reducible rfl
  simp only[Act.put,List.setIfInBounds_toArray,List.set_cons_zero,List.set_cons_succ]
  refine z0n 37 (some 148) (v:=?_) rfl rfl (by kernel_rfl) (by kernel_rfl) (by kernel_rfl) (fun _ _ _ h=>h) (Or.inl ⟨by rfl,?_⟩) (by assumption) ?_
  rotate_left
  ·intro w' hSw
   go_simp
   try with_reducible rfl
  simp only[Act.put,List.setIfInBounds_toArray,List.set_cons_zero,List.set_cons_succ]
  refine z0n 38 (some 149) (v:=?_) rfl rfl (by kernel_rfl) (by kernel_rfl) (by kernel_rfl) (fun _ _ _ h=>h) (Or.inl ⟨by rfl,?_⟩) (by assumption) ?_
  rotate_left
  ·intro w' hSw
   go_simp
   try with_reducible rfl
  simp only[Act.put,List.setIfInBounds_toArray,List.set_cons_zero,List.set_cons_succ]
  refine z0n 39 (some 150) (v:=?_) rfl rfl (by kernel_rfl) (by kernel_rfl) (by kernel_rfl) (fun _ _ _ h=>h) (Or.inl ⟨by rfl,?_⟩) (by assumption) ?_
  rotate_left
  ·intro w' hSw
   go_simp
   try with_reducible rfl
  simp only[Act.put,List.setIfInBounds_toArray,List.set_cons_zero,List.set_cons_succ]
  have ct:=fun V (hV:Below w13.heap.size w13 V)=>HK.out.time (O13.out.below HK.out hV).imp
  rw[HTT.out] at ct
  refine z5q 40 (some 151) 17 #[.pointer (some ⟨p,0,none⟩)] rfl rfl (by rfl) (by kernel_rfl) (by kernel_rfl) (Calls.mono (ct _ hHeld.2.2.2) ?_)
  rintro e w14 ⟨rfl,b14⟩
  have hH2:=hHeld
  clear hHeld
  refine⟨_,rfl,⟨z0f hH2.1 b14,z0f hH2.2.1 b14,z0f hH2.2.2.1 b14,z0e hH2.2.2.2 b14⟩,fun hHeld=>?_⟩
  simp only[Act.put,List.setIfInBounds_toArray,List.set_cons_zero,List.set_cons_succ]
  refine z0n 41 (some 152) (v:=?_) rfl rfl (by kernel_rfl) (by kernel_rfl) (by kernel_rfl) (fun _ _ _ h=>h) (Or.inl ⟨by rfl,?_⟩) (by assumption) ?_
  rotate_left
  ·intro w' hSw
   go_simp
   try with_reducible rfl
  simp only[Act.put,List.setIfInBounds_toArray,List.set_cons_zero,List.set_cons_succ]
  refine z0n 42 (some 153) (v:=?_) rfl rfl (by kernel_rfl) (by kernel_rfl) (by kernel_rfl) (fun _ _ _ h=>h) (Or.inl ⟨by rfl,?_⟩) (by assumption) ?_
  rotate_left
  ·intro w' hSw
   go_simp
   try with_reducible rfl
  simp only[Act.put,List.setIfInBounds_toArray,List.set_cons_zero,List.set_cons_succ]
  refine wpAnyH_done (by kernel_rfl) ?_ _
  refine NoPanic.normal ?_
  have B14:Hid _:=hHeld.2.2.2
  have I14:Hid _:=z0f I13.out B14.out
  have O14:Hid _:=O13.out.below HK.out B14.out
  clear hHeld B14 I13 O13 S13h R13 V13
  go_wp2_with fail
  go_loopw [19] (fun i wr=>∃ j:Nat,j≤6∧i=.int .i64 j∧Hid (Below w14.heap.size w14 wr)) (fun i _=>6-(intOf i).toNat)
  case atStart=>exact⟨0,Nat.zero_le _,rfl,Below.refl _ _⟩
  case round=>
   obtain⟨j,hj,rfl,hbr⟩:=hrel
   have O15:Hid _:=O14.out.below HK.out hbr.out
   have I15:Hid _:=z0f I14.out hbr.out
   by_cases hlt:j<6
   ·have v1:4*(j:Int)%4294967296=4*(j:Int):=by omega
    have v2:wrap64 (4*(j:Int))=4*(j:Int):=z0y (by omega) (by omega)
    have j0:(0:Int)≤(j:Int):=by omega
    have j1:(j:Int)<6:=by omega
    have cw:=O15.out.word HK.out j hlt (by decide) (4*(j:Int)) rfl
    have HY:Hid ((wordsC [1,2,W,4,5,6])[j]?=some (.int .u32 (z0p [1,2,W,4,5,6] j))):=wordsC_at _ j hlt
    have CW2:Hid _:=cw
    clear cw
    generalize z0p [1,2,W,4,5,6] j=y at *
    go_wp2_with fail
    refine Calls.mono CW2.out ?_
    rintro e w16 ⟨rfl,b16⟩
    have I16:=z0f I15.out b16
    have B16:Hid _:=z0e hbr.out b16
    clear b16 I15 O15 CW2 hbr
    go_wp2_with (first | (refine z0w (by rfl) 24 (.tmp 168) rfl w.heap.size (k*5) rfl #[.string S,.int .i64 d,.int .i64 a,.int .i64 b,.int .i32 m] _ (HI.out _ _ _ I16) HFI.out rfl infoIns ?_))
    refine (CW.out _).mono ?_
    rintro e w17 ⟨rfl,b17⟩
    have B17:Hid _:=z0e B16.out b17
    have B18:Hid (Below w14.heap.size w14 (w17.alloc (.cells #[.int .u32 1,.int .u32 2,.int .u32 W,.int .u32 4,.int .u32 5,.int .u32 6] 31))):=B17.out.alloc B17.out.size _
    clear b17 I16 B16
    go_wp2_with (first | (go_at_call 13;refine (zErr6 _ _).mono ?_;rintro e wq ⟨rfl,hwq⟩;rw[hwq];clear hwq wq) | (refine z8k (v:=.int .u32 y) rfl rfl rfl (show _=some (.cells (wordsC [1,2,W,4,5,6]) 31) from z0g w17 _) HY.out ?_))
    exact⟨⟨j+1,hlt,by go_num,B18.out⟩,by simp[intOf];omega⟩
   ·have hj6:j=6:=by omega
    subst hj6
    go_wp2_with fail
    refine Calls.mono (kawake6 HK.out _) ?_
    rintro e w16 ⟨rfl,b16⟩
    have O16:Hid _:=O15.out.below HK.out b16
    go_wp2
    go_ret
    exact⟨rfl,O16.out.bel⟩
theorem faults4m {Is:z6d} (K:CoreK Is) (which x odd far:Int) (hwh:0≤which∧which≤255) (hx:U32 x) (hwk:which.tmod 10=4) (ho:bits .or .u32 x 1=odd) (hf:1048576+x%4*4=far) (w:World) :
  Calls Tryz.prog 7 #[.int .u8 which,.int .u32 x,.bool false] w fun e w'=>e=.returned (.bool true)∧Below w.heap.size w w':=by
 have HK:Hid _:=K
 have t1:x.tmod 4=x%4:=Int.tmod_eq_emod_of_nonneg hx.1
 have od:=odd_of hx
 rw[ho] at od
 have hfar:1048576≤far∧far<1048592∧far%4=0:=by omega
 obtain⟨S,d,a,b,m,hI,hS⟩:=fault_at 4 (by omega)
 obtain⟨W,hW⟩:∃ W,W=putN (insF.getD 4 ⟨[],0,0,0,0⟩):=⟨_,rfl⟩
 have CW:Hid (∀ V:World,Calls Tryz.prog 12 #[.agg #[.string S,.int .i64 d,.int .i64 a,.int .i64 b,.int .i32 m]] V fun e w'=>e=.returned (.int .u32 W)∧Below V.heap.size V w'):=fun V=>by
  have:=kWord S d a b m V
  rw[hS,← hW] at this
  exact this
 obtain⟨s,p1,r1⟩:=fault_plain (x:=x) (odd:=odd) (far:=far) (u:=false) od.1 od.2 hfar 4 (by omega) hW
 have P1:Hid _:=p1
 have R1:Hid _:=r1
 have HI:Hid _:=hI
 have HV:Hid _:=fault_val 4 (by omega) odd far W hW
 have HCA:Hid _:=fault_cause 4 (by omega)
 have hWu:U32 W:=by rw[hW];exact putN_u _
 have HU:Hid (∀ j,U32 (z0p [1,2,W,4,5,6] j)):=word_u fun z hz=>by
  simp only[List.mem_cons,List.not_mem_nil,or_false] at hz
  rcases hz with rfl | rfl | rfl | rfl | rfl | rfl
  all_goals first | exact hWu | exact⟨by decide,by decide⟩
 have HF:Hid (∀ i,U32 (faultF x odd far i)):=z4m (z4m (z4m (z4m (z4m (z4m (z4m (fun _=>(⟨by decide,by decide⟩:U32 0)) 32 ⟨by decide,by decide⟩) 36 ⟨by decide,by decide⟩) 42 ⟨by decide,by decide⟩) 1 ⟨by decide,by decide⟩) 2 od.2) 3 hx) 4 ⟨by omega,by omega⟩
 have hq:=eqPtr2
 have hmo:Tryz.prog.follows .mixedOrders=true:=by kernel_rfl
 obtain⟨fi,hfi⟩:=undIns
 have HFI:Hid _:=hfi
 obtain⟨fs,hfs⟩:=z3f
 have HS:Hid _:=hfs
 have I0:Hid (((w.alloc (.cells insL 24)).alloc (.cells #[.int .u32 4,.int .u32 4,.int .u32 6,.int .u32 6,.int .u32 11,.int .u32 3,.int .u32 5,.int .u32 7,.int .u32 2,.int .u32 2] 31)).heap[w.heap.size]?=some (.cells insL 24)):=z0m ((Below.refl _ _).alloc (Nat.le_refl _) _)
 have C0:Hid (((w.alloc (.cells insL 24)).alloc (.cells #[.int .u32 4,.int .u32 4,.int .u32 6,.int .u32 6,.int .u32 11,.int .u32 3,.int .u32 5,.int .u32 7,.int .u32 2,.int .u32 2] 31)).heap[w.heap.size+1]?=some (.cells #[.int .u32 4,.int .u32 4,.int .u32 6,.int .u32 6,.int .u32 11,.int .u32 3,.int .u32 5,.int .u32 7,.int .u32 2,.int .u32 2] 31)):=by
  have:=z0g (w.alloc (.cells insL 24)) (.cells #[.int .u32 4,.int .u32 4,.int .u32 6,.int .u32 6,.int .u32 11,.int .u32 3,.int .u32 5,.int .u32 7,.int .u32 2,.int .u32 2] 31)
  rw[World.size_alloc] at this
  exact this
 have B0:Hid (Below w.heap.size w ((w.alloc (.cells insL 24)).alloc (.cells #[.int .u32 4,.int .u32 4,.int .u32 6,.int .u32 6,.int .u32 11,.int .u32 3,.int .u32 5,.int .u32 7,.int .u32 2,.int .u32 2] 31))):=box2
 have HFAR:Hid _:=hfar
 clear K p1 r1 hI hW hfi hfs hS hWu
 go_enter Tryz.func7,Tryz.ntmps7
 go_wp2_with fail
 refine z1b 16 [] [.int .u32 odd,.int .u32 odd,.int .u32 odd,.int .u32 odd,.int .u32 far,.int .u32 far,.slice (some ⟨w.heap.size,0,none⟩) 10 10,.int .i64 4,.pointer (some ⟨w.heap.size,20,none⟩),.agg #[.string S,.int .i64 d,.int .i64 a,.int .i64 b,.int .i32 m],.int .u32 W,.slice (some ⟨w.heap.size,0,none⟩) 10 10,.int .i64 4,.pointer (some ⟨w.heap.size,20,none⟩),.agg #[.string S,.int .i64 d,.int .i64 a,.int .i64 b,.int .i32 m],.int .u32 W] hmo (by kernel_rfl) (by kernel_rfl) (by intro r hr;cases hr) ?_ (by intro r hr;cases hr) (by intro r hr;cases hr) ?_
 ·generalize hl:lay _ _ _=af
  have e7:af.tmps[7]?.getD undef=.int .u32 odd:=by rw[← hl];kernel_rfl
  have e10:af.tmps[10]?.getD undef=.int .u32 far:=by rw[← hl];kernel_rfl
  have e8:af.tmps[8]?.getD undef=.slice (some ⟨w.heap.size,0,none⟩) 10 10:=by rw[← hl];kernel_rfl
  have e9:af.tmps[9]?.getD undef=.int .i64 4:=by rw[← hl];kernel_rfl
  have e52:af.tmps[52]?.getD undef=.slice (some ⟨w.heap.size,0,none⟩) 10 10:=by rw[← hl];kernel_rfl
  have e53:af.tmps[53]?.getD undef=.int .i64 4:=by rw[← hl];kernel_rfl
  have e55:af.tmps[55]?.getD undef=.agg #[.string S,.int .i64 d,.int .i64 a,.int .i64 b,.int .i32 m]:=by rw[← hl];kernel_rfl
  have e57:af.tmps[57]?.getD undef=.slice (some ⟨w.heap.size,0,none⟩) 10 10:=by rw[← hl];kernel_rfl
  have e58:af.tmps[58]?.getD undef=.int .i64 4:=by rw[← hl];kernel_rfl
  have e60:af.tmps[60]?.getD undef=.agg #[.string S,.int .i64 d,.int .i64 a,.int .i64 b,.int .i32 m]:=by rw[← hl];kernel_rfl
  have v54:af.eval (.tmp 54)=.pointer (some ⟨w.heap.size,20,none⟩):=by rw[← hl];kernel_rfl
  have v59:af.eval (.tmp 59)=.pointer (some ⟨w.heap.size,20,none⟩):=by rw[← hl];kernel_rfl
  clear hl
  refine And.intro (fun w' hw=>z0d (by simp[execOp,go_sem,e7])) ?_
  refine And.intro (fun w' hw=>z0d (by simp[execOp,go_sem,e7])) ?_
  refine And.intro (fun w' hw=>z0d (by simp[execOp,go_sem,e7])) ?_
  refine And.intro (fun w' hw=>z0d (by simp[execOp,go_sem,e7])) ?_
  refine And.intro (fun w' hw=>z0d (by simp[execOp,go_sem,e10])) ?_
  refine And.intro (fun w' hw=>z0d (by simp[execOp,go_sem,e10])) ?_
  refine And.intro (fun w' hw=>z0d (by simp[execOp,go_sem,e8])) ?_
  refine And.intro (fun w' hw=>z0d (by simp[execOp,go_sem,e9])) ?_
  refine And.intro (fun w' hw=>z0d (by simp[execOp,go_sem,e52,e53])) ?_
  refine And.intro (fun w' hw=>z8x 24 (.tmp 54) rfl w.heap.size 20 v54 #[.string S,.int .i64 d,.int .i64 a,.int .i64 b,.int .i32 m] _ (HI.out _ _ _ (z0f I0.out hw)) HFI.out rfl infoIns) ?_
  refine And.intro (fun w' hw=>z1k 12 #[.agg #[.string S,.int .i64 d,.int .i64 a,.int .i64 b,.int .i32 m]] (by simp[go_sem,e55]) (CW.out _)) ?_
  refine And.intro (fun w' hw=>z0d (by simp[execOp,go_sem,e8])) ?_
  refine And.intro (fun w' hw=>z0d (by simp[execOp,go_sem,e9])) ?_
  refine And.intro (fun w' hw=>z0d (by simp[execOp,go_sem,e57,e58])) ?_
  refine And.intro (fun w' hw=>z8x 24 (.tmp 59) rfl w.heap.size 20 v59 #[.string S,.int .i64 d,.int .i64 a,.int .i64 b,.int .i32 m] _ (HI.out _ _ _ (z0f I0.out hw)) HFI.out rfl infoIns) ?_
  refine And.intro (fun w' hw=>z1k 12 #[.agg #[.string S,.int .i64 d,.int .i64 a,.int .i64 b,.int .i32 m]] (by simp[go_sem,e60]) (CW.out _)) ?_
  exact True.intro
 ·intro β3 W3 hW3 _ _
  have I3:=z0f I0.out hW3
  have C3:=z0f C0.out hW3
  have B3:Hid _:=z0e B0.out hW3
  clear hW3 I0 C0 B0
  simp[z3o,lay,Act.put]
  have V4:=z0g W3 (.cells #[.int .u32 odd,.int .u32 odd,.int .u32 odd,.int .u32 odd,.int .u32 0,.int .u32 8,.int .u32 far,.int .u32 far,.int .u32 W,.int .u32 W] 31)
  have a4:Below W3.heap.size W3 (W3.alloc (.cells #[.int .u32 odd,.int .u32 odd,.int .u32 odd,.int .u32 odd,.int .u32 0,.int .u32 8,.int .u32 far,.int .u32 far,.int .u32 W,.int .u32 W] 31)):=(Below.refl _ _).alloc (Nat.le_refl _) _
  have I4:=z0f I3 a4
  have C4:=z0f C3 a4
  have B4:Hid _:=z0e B3.out a4
  clear a4 I3 C3 B3
  obtain⟨c0,hc0⟩:∃ c0:Int,c0=(11:Int):=⟨_,rfl⟩
  have HCB:Hid ((#[.int .u32 4,.int .u32 4,.int .u32 6,.int .u32 6,.int .u32 11,.int .u32 3,.int .u32 5,.int .u32 7,.int .u32 2,.int .u32 2]:Array Value)[4]?=some (.int .u32 c0)):=by rw[hc0];exact HCA.out
  have HC0:Hid _:=hc0
  clear HCA hc0
  go_wp2_with (first | (refine z8k (v:=.int .u32 c0) rfl rfl rfl C4 HCB.out ?_) | (refine z0w (by rfl) 24 (.tmp 75) rfl w.heap.size 20 rfl #[.string S,.int .i64 d,.int .i64 a,.int .i64 b,.int .i32 m] _ (HI.out _ _ _ I4) HFI.out rfl infoIns ?_))
  refine (CW.out _).mono ?_
  rintro e w5 ⟨rfl,b5⟩
  have I5:=z0f I4 b5
  have V5:=z0f V4 b5
  have B5:Hid _:=z0e B4.out b5
  clear b5 I4 V4 B4 C4 HCB
  generalize W3.heap.size=vb at *
  go_wp2_with fail
  have L6:(w5.alloc (.cells #[.int .u32 1,.int .u32 2,.int .u32 W,.int .u32 4,.int .u32 5,.int .u32 6] 31)).heap[w5.heap.size]?=some (.cells (wordsC [1,2,W,4,5,6]) 31):=z0g w5 _
  have a6:Below w5.heap.size w5 (w5.alloc (.cells #[.int .u32 1,.int .u32 2,.int .u32 W,.int .u32 4,.int .u32 5,.int .u32 6] 31)):=(Below.refl _ _).alloc (Nat.le_refl _) _
  have I6:=z0f I5 a6
  have V6:=z0f V5 a6
  have B6:Hid _:=z0e B5.out a6
  clear a6 I5 V5 B5
  generalize w5.alloc (.cells #[.int .u32 1,.int .u32 2,.int .u32 W,.int .u32 4,.int .u32 5,.int .u32 6] 31)=w6 at *
  have hc:=words_cells L6
  have hb:=(Array.getElem?_eq_some_iff.1 L6).1
  refine Calls.mono (One.new HK.out w5.heap.size 0 6 [1,2,W,4,5,6] (.slice none 0 0) [] B6.out (show 0<6 by decide) (show 6≤1000 by decide) HU.out hb hc (no_late _) (by decide)) ?_
  rintro e w7 ⟨p,F7,rfl,o7,b7,q7⟩
  have O7:Hid (One Is w [] p 6 0 w7 F7 (newC undef undef) [1,2,W,4,5,6] []):=o7
  have I7:=z0f I6 b7
  have V7:=z0f V6 b7
  have AI7:Hid (Away F7 w7 w.heap.size):=⟨(Array.getElem?_eq_some_iff.1 I7).1,fun e=>by have:=q7 _ e;have:=(Array.getElem?_eq_some_iff.1 I6).1;omega⟩
  have AV7:Hid (Away F7 w7 vb):=⟨(Array.getElem?_eq_some_iff.1 V7).1,fun e=>by have:=q7 _ e;have:=(Array.getElem?_eq_some_iff.1 V6).1;omega⟩
  have NR:Hid (¬F7 w7.heap.size):=fun e=>Nat.lt_irrefl _ (HK.out.lt o7.imp _ e)
  clear hc hb o7 b7 q7 I6 V6 B6 L6
  go_wp2_with (first | (go_at_call 13;refine (zErr6 _ _).mono ?_;rintro e wq ⟨rfl,hwq⟩;rw[hwq];clear hwq wq) | (refine z4p rfl 37 (.tmp 16) (.tmp 90) rfl rfl (z0c (set1 (set1 (fun _=>0) 32 8) 36 16) false) rfl 37 _ (by rw[z0b];exact z0o) (by rw[z8d,z0b,z0b]) (z0s _ _) ?_))
  intro w8 R8 b8
  go_wp2_with (first | (refine z0h rfl rfl rfl rfl (by assumption) (by decide) (by decide) ?_;intro wn Rn HO HL;have Bn:=HL w7.heap.size w7 (Nat.le_refl _) (by assumption);clear HO HL) | (refine z7d (by rfl) 37 (.tmp 16) rfl w7.heap.size rfl 37 (z0c (faultF x odd far) false) _ (by assumption) HS.out rfl (by rw[z0b];exact z0o) ?_))
  have O9:Hid _:=O7.out.below HK.out Bn
  have I9:=z0f I7 Bn
  have V9:=z0f V7 Bn
  have R9:wn.heap[w7.heap.size]?=some (.cells (z0c (faultF x odd far) false) 37):=Rn
  have AI9:Hid _:=AI7.out.below Bn
  have AV9:Hid _:=AV7.out.below Bn
  have AR9:Hid (Away F7 wn w7.heap.size):=⟨(Array.getElem?_eq_some_iff.1 R9).1,NR.out⟩
  clear Bn Rn b8 R8 O7 I7 V7 AI7 AV7 NR
  generalize w7.heap.size=rb at *
  refine Calls.mono (One.put HK.out O9.out (faultF x odd far) false HF.out) ?_
  rintro e w10 ⟨rfl,F10,o10,c10,f10⟩
  have O10:Hid (One Is w [] p 6 0 w10 F10 (begC (faultF x odd far) false) [1,2,W,4,5,6] []):=o10
  have I10:=c10.kept I9 AI9.out.no
  have V10:=c10.kept V9 AV9.out.no
  have R10:=c10.kept R9 AR9.out.no
  have AI10:Hid _:=AI9.out.next c10 f10
  have AV10:Hid _:=AV9.out.next c10 f10
  have AR10:Hid _:=AR9.out.next c10 f10
  clear o10 c10 f10 O9 I9 V9 R9 AI9 AV9 AR9
  go_wp2_with fail
  have st:=One.step HK.out O10.out (by decide) (by decide) (by decide) no_lates
  rw[P1.out,show (begC (faultF x odd far) false).stop=false from rfl] at st
  refine Calls.mono st ?_
  rintro e w11 ⟨rfl,F11,o11,c11,f11⟩
  have O11:Hid (One Is w [] p 6 1 w11 F11 s [1,2,W,4,5,6] []):=o11
  have I11:=c11.kept I10 AI10.out.no
  have V11:=c11.kept V10 AV10.out.no
  have R11:=c11.kept R10 AR10.out.no
  clear o11 c11 f11 O10 I10 V10 R10 AI10 AV10 AR10 st
  go_wp2_with fail
  refine Calls.mono (HK.out.regs O11.out.imp) ?_
  rintro e w12 ⟨rfl,b12⟩
  have O12:Hid _:=O11.out.below HK.out b12
  have I12:=z0f I11 b12
  have V12:=z0f V11 b12
  have R12:=z0f R11 b12
  clear b12 O11 I11 V11 R11
  go_wp2_with (first | (refine z4p rfl 37 (.tmp 18) (.tmp 110) rfl rfl (z0c _ _) rfl 37 _ (by rw[z0b];exact z0o) (by rw[z8d,z0b,z0b]) (z0s _ _) ?_))
  intro w13 S13 b13
  have O13:Hid _:=O12.out.below HK.out b13
  have I13:Hid _:=z0f I12 b13
  have V13:Hid _:=z0f V12 b13
  have R13:Hid _:=z0f R12 b13
  have S13h:Hid _:=S13
  clear b13 O12 I12 V12 R12 S13
  generalize w12.heap.size=sb at *
  have hnx:=neqX32 (faultF x odd far)
  have X1:Hid (x32 s.f=x32 (faultF x odd far)):=x32_ext R1.out.x
  have KC:Hid (s.f 39=c0):=by rw[HC0.out];exact R1.out.cause
  obtain⟨vv,hvv⟩:∃ vv,vv=valF 4 odd far:=⟨_,rfl⟩
  have HVV:Hid ((#[.int .u32 odd,.int .u32 odd,.int .u32 odd,.int .u32 odd,.int .u32 0,.int .u32 8,.int .u32 far,.int .u32 far,.int .u32 W,.int .u32 W]:Array Value)[4]?=some (.int .u32 vv)):=by rw[hvv];exact HV.out
  have KV:Hid (s.f 40=vv):=by rw[hvv];exact R1.out.val
  clear hvv HV
  have HTT:Hid (s.t=4):=R1.out.t
  have HST:=R1
  clear HST
  go_wp2_with fail
  refine wp_region_noPanic ?_
  refine wp_region_held_drew (S:=fun V=>V.heap[sb]?=some (.cells (z0c s.f s.u) 37)∧V.heap[rb]?=some (.cells (z0c (faultF x odd far) false) 37)∧V.heap[vb]?=some (.cells #[.int .u32 odd,.int .u32 odd,.int .u32 odd,.int .u32 odd,.int .u32 0,.int .u32 8,.int .u32 far,.int .u32 far,.int .u32 W,.int .u32 W] 31)∧Below w13.heap.size w13 V) (by kernel_rfl) ⟨S13h.out,R13.out,V13.out,(Below.refl _ _).drew⟩ (fun hHeld=>?_)
  refine z0n 0 (some 111) (v:=?_) rfl rfl (by kernel_rfl) (by kernel_rfl) (by kernel_rfl) (fun _ _ _ h=>h) (Or.inl ⟨by rfl,?_⟩) (by assumption) ?_
  rotate_left
  ·intro w' hSw
   go_simp
   try with_reducible rfl
  simp only[Act.put,List.setIfInBounds_toArray,List.set_cons_zero,List.set_cons_succ]
  refine z0n 1 (some 112) (v:=?_) rfl rfl (by kernel_rfl) (by kernel_rfl) (by kernel_rfl) (fun _ _ _ h=>h) (Or.inl ⟨by rfl,?_⟩) (by assumption) ?_
  rotate_left
  ·intro w' hSw
   go_simp
   try with_reducible rfl
  simp only[Act.put,List.setIfInBounds_toArray,List.set_cons_zero,List.set_cons_succ]
  refine z0n 2 (some 113) (v:=?_) rfl rfl (by kernel_rfl) (by kernel_rfl) (by kernel_rfl) (fun _ _ _ h=>h) (Or.inl ⟨by rfl,?_⟩) (by assumption) ?_
  rotate_left
  ·intro w' hSw
   go_simp
   try with_reducible rfl
  simp only[Act.put,List.setIfInBounds_toArray,List.set_cons_zero,List.set_cons_succ]
  refine z0n 3 (some 114) (v:=?_) rfl rfl (by kernel_rfl) (by kernel_rfl) (by kernel_rfl) (fun _ _ _ h=>h) (Or.inl ⟨by rfl,?_⟩) (by assumption) ?_
  rotate_left
  ·intro w' hSw
   go_simp
   try with_reducible rfl
  simp only[Act.put,List.setIfInBounds_toArray,List.set_cons_zero,List.set_cons_succ]
  refine z0n 4 (some 115) (v:=.agg (x32 (faultF x odd far))) rfl rfl (by kernel_rfl) (by kernel_rfl) (by kernel_rfl) (fun _ _ _ h=>h) (Or.inl ⟨by rfl,fun w' hSw=>run_mids 34 (.tmp 114) rfl sb 0 rfl (x32 (faultF x odd far)) _ (by rw[← X1.out];exact x32_range hSw.1) undX32 rfl (by rw[x32_size];exact info32)⟩) (by assumption) ?_
  simp only[Act.put,List.setIfInBounds_toArray,List.set_cons_zero,List.set_cons_succ]
  refine z0n 5 (some 116) (v:=?_) rfl rfl (by kernel_rfl) (by kernel_rfl) (by kernel_rfl) (fun _ _ _ h=>h) (Or.inl ⟨by rfl,?_⟩) (by assumption) ?_
  rotate_left
  ·intro w' hSw
   go_simp
   try with_reducible rfl
  simp only[Act.put,List.setIfInBounds_toArray,List.set_cons_zero,List.set_cons_succ]
  refine z0n 6 (some 117) (v:=.agg (x32 (faultF x odd far))) rfl rfl (by kernel_rfl) (by kernel_rfl) (by kernel_rfl) (fun _ _ _ h=>h) (Or.inl ⟨by rfl,fun w' hSw=>run_mids 34 (.tmp 116) rfl rb 0 rfl (x32 (faultF x odd far)) _ (x32_range hSw.2.1) undX32 rfl (by rw[x32_size];exact info32)⟩) (by assumption) ?_
  simp only[Act.put,List.setIfInBounds_toArray,List.set_cons_zero,List.set_cons_succ]
  refine z0n 7 (some 118) (v:=?_) rfl rfl (by kernel_rfl) (by kernel_rfl) (by kernel_rfl) (fun _ _ _ h=>h) (Or.inl ⟨by rfl,?_⟩) (by assumption) ?_
  rotate_left
  ·intro w' hSw
   go_simp
   try with_reducible rfl
  simp only[Act.put,List.setIfInBounds_toArray,List.set_cons_zero,List.set_cons_succ]
  refine z0n 8 (some 119) (v:=?_) rfl rfl (by kernel_rfl) (by kernel_rfl) (by kernel_rfl) (fun _ _ _ h=>h) (Or.inl ⟨by rfl,?_⟩) (by assumption) ?_
  rotate_left
  ·intro w' hSw
   go_simp
   try with_reducible rfl
  simp only[Act.put,List.setIfInBounds_toArray,List.set_cons_zero,List.set_cons_succ]
  refine z0n 9 (some 120) (v:=?_) rfl rfl (by kernel_rfl) (by kernel_rfl) (by kernel_rfl) (fun _ _ _ h=>h) (Or.inl ⟨by rfl,?_⟩) (by assumption) ?_
  rotate_left
  ·intro w' hSw
   go_simp
   try with_reducible rfl
  simp only[Act.put,List.setIfInBounds_toArray,List.set_cons_zero,List.set_cons_succ]
  refine z0n 10 (some 121) (v:=?_) rfl rfl (by kernel_rfl) (by kernel_rfl) (by kernel_rfl) (fun _ _ _ h=>h) (Or.inl ⟨by rfl,?_⟩) (by assumption) ?_
  rotate_left
  ·intro w' hSw
   go_simp
   try with_reducible rfl
  simp only[Act.put,List.setIfInBounds_toArray,List.set_cons_zero,List.set_cons_succ]
  refine z0n 11 (some 122) (v:=.int .u32 16) rfl rfl (by kernel_rfl) (by kernel_rfl) (by kernel_rfl) (fun _ _ _ h=>h) (Or.inl ⟨by rfl,fun w' hSw=>run_reg_is rfl 32 rfl hSw.1 (by decide) (by decide) R1.out.pc⟩) (by assumption) ?_
  simp only[Act.put,List.setIfInBounds_toArray,List.set_cons_zero,List.set_cons_succ]
  refine z0n 12 (some 123) (v:=?_) rfl rfl (by kernel_rfl) (by kernel_rfl) (by kernel_rfl) (fun _ _ _ h=>h) (Or.inl ⟨by rfl,?_⟩) (by assumption) ?_
  rotate_left
  ·intro w' hSw
   go_simp
   try with_reducible rfl
  simp only[Act.put,List.setIfInBounds_toArray,List.set_cons_zero,List.set_cons_succ]
  refine z0n 13 (some 124) (v:=?_) rfl rfl (by kernel_rfl) (by kernel_rfl) (by kernel_rfl) (fun _ _ _ h=>h) (Or.inl ⟨by rfl,?_⟩) (by assumption) ?_
  rotate_left
  ·intro w' hSw
   go_simp
   try with_reducible rfl
  simp only[Act.put,List.setIfInBounds_toArray,List.set_cons_zero,List.set_cons_succ]
  refine z0n 14 (some 125) (v:=?_) rfl rfl (by kernel_rfl) (by kernel_rfl) (by kernel_rfl) (fun _ _ _ h=>h) (Or.inl ⟨by rfl,?_⟩) (by assumption) ?_
  rotate_left
  ·intro w' hSw
   go_simp
   try with_reducible rfl
  simp only[Act.put,List.setIfInBounds_toArray,List.set_cons_zero,List.set_cons_succ]
  refine z0n 15 (some 126) (v:=?_) rfl rfl (by kernel_rfl) (by kernel_rfl) (by kernel_rfl) (fun _ _ _ h=>h) (Or.inl ⟨by rfl,?_⟩) (by assumption) ?_
  rotate_left
  ·intro w' hSw
   go_simp
   try with_reducible rfl
  simp only[Act.put,List.setIfInBounds_toArray,List.set_cons_zero,List.set_cons_succ]
  refine z0n 16 (some 127) (v:=.bool false) rfl rfl (by kernel_rfl) (by kernel_rfl) (by kernel_rfl) (fun _ _ _ h=>h) (Or.inl ⟨by rfl,fun w' hSw=>run_user_is rfl rfl hSw.1 R1.out.u⟩) (by assumption) ?_
  simp only[Act.put,List.setIfInBounds_toArray,List.set_cons_zero,List.set_cons_succ]
  refine z0n 17 (some 128) (v:=?_) rfl rfl (by kernel_rfl) (by kernel_rfl) (by kernel_rfl) (fun _ _ _ h=>h) (Or.inl ⟨by rfl,?_⟩) (by assumption) ?_
  rotate_left
  ·intro w' hSw
   go_simp
   try with_reducible rfl
  simp only[Act.put,List.setIfInBounds_toArray,List.set_cons_zero,List.set_cons_succ]
  refine z0n 18 (some 129) (v:=?_) rfl rfl (by kernel_rfl) (by kernel_rfl) (by kernel_rfl) (fun _ _ _ h=>h) (Or.inl ⟨by rfl,?_⟩) (by assumption) ?_
  rotate_left
  ·intro w' hSw
   go_simp
   try with_reducible rfl
  simp only[Act.put,List.setIfInBounds_toArray,List.set_cons_zero,List.set_cons_succ]
  refine z0n 19 (some 130) (v:=?_) rfl rfl (by kernel_rfl) (by kernel_rfl) (by kernel_rfl) (fun _ _ _ h=>h) (Or.inl ⟨by rfl,?_⟩) (by assumption) ?_
  rotate_left
  ·intro w' hSw
   go_simp
   try with_reducible rfl
  simp only[Act.put,List.setIfInBounds_toArray,List.set_cons_zero,List.set_cons_succ]
  refine z0n 20 (some 131) (v:=.int .u32 c0) rfl rfl (by kernel_rfl) (by kernel_rfl) (by kernel_rfl) (fun _ _ _ h=>h) (Or.inl ⟨by rfl,fun w' hSw=>run_reg_is rfl 39 rfl hSw.1 (by decide) (by decide) KC.out⟩) (by assumption) ?_
  simp only[Act.put,List.setIfInBounds_toArray,List.set_cons_zero,List.set_cons_succ]
  refine z0n 21 (some 132) (v:=?_) rfl rfl (by kernel_rfl) (by kernel_rfl) (by kernel_rfl) (fun _ _ _ h=>h) (Or.inl ⟨by rfl,?_⟩) (by assumption) ?_
  rotate_left
  ·intro w' hSw
   go_simp
   try with_reducible rfl
  simp only[Act.put,List.setIfInBounds_toArray,List.set_cons_zero,List.set_cons_succ]
  refine z0n 22 (some 133) (v:=?_) rfl rfl (by kernel_rfl) (by kernel_rfl) (by kernel_rfl) (fun _ _ _ h=>h) (Or.inl ⟨by rfl,?_⟩) (by assumption) ?_
  rotate_left
  ·intro w' hSw
   go_simp
   try with_reducible rfl
  simp only[Act.put,List.setIfInBounds_toArray,List.set_cons_zero,List.set_cons_succ]
  refine z0n 23 (some 134) (v:=?_) rfl rfl (by kernel_rfl) (by kernel_rfl) (by kernel_rfl) (fun _ _ _ h=>h) (Or.inl ⟨by rfl,?_⟩) (by assumption) ?_
  rotate_left
  ·intro w' hSw
   go_simp
   try with_reducible rfl
  simp only[Act.put,List.setIfInBounds_toArray,List.set_cons_zero,List.set_cons_succ]
  refine z0n 24 (some 135) (v:=?_) rfl rfl (by kernel_rfl) (by kernel_rfl) (by kernel_rfl) (fun _ _ _ h=>h) (Or.inl ⟨by rfl,?_⟩) (by assumption) ?_
  rotate_left
  ·intro w' hSw
   go_simp
   try with_reducible rfl
  simp only[Act.put,List.setIfInBounds_toArray,List.set_cons_zero,List.set_cons_succ]
  refine z0n 25 (some 136) (v:=?_) rfl rfl (by kernel_rfl) (by kernel_rfl) (by kernel_rfl) (fun _ _ _ h=>h) (Or.inl ⟨by rfl,?_⟩) (by assumption) ?_
  rotate_left
  ·intro w' hSw
   go_simp
   try with_reducible rfl
  simp only[Act.put,List.setIfInBounds_toArray,List.set_cons_zero,List.set_cons_succ]
  refine z0n 26 (some 137) (v:=.int .u32 vv) rfl rfl (by kernel_rfl) (by kernel_rfl) (by kernel_rfl) (fun _ _ _ h=>h) (Or.inl ⟨by rfl,fun w' hSw=>run_reg_is rfl 40 rfl hSw.1 (by decide) (by decide) KV.out⟩) (by assumption) ?_
  simp only[Act.put,List.setIfInBounds_toArray,List.set_cons_zero,List.set_cons_succ]
  refine z0n 27 (some 138) (v:=?_) rfl rfl (by kernel_rfl) (by kernel_rfl) (by kernel_rfl) (fun _ _ _ h=>h) (Or.inl ⟨by rfl,?_⟩) (by assumption) ?_
  rotate_left
  ·intro w' hSw
   go_simp
   try with_reducible rfl
  simp only[Act.put,List.setIfInBounds_toArray,List.set_cons_zero,List.set_cons_succ]
  refine z0n 28 (some 139) (v:=?_) rfl rfl (by kernel_rfl) (by kernel_rfl) (by kernel_rfl) (fun _ _ _ h=>h) (Or.inl ⟨by rfl,?_⟩) (by assumption) ?_
  rotate_left
  ·intro w' hSw
   go_simp
   try with_reducible rfl
  simp only[Act.put,List.setIfInBounds_toArray,List.set_cons_zero,List.set_cons_succ]
  refine z0n 29 (some 140) (v:=?_) rfl rfl (by kernel_rfl) (by kernel_rfl) (by kernel_rfl) (fun _ _ _ h=>h) (Or.inl ⟨by rfl,?_⟩) (by assumption) ?_
  rotate_left
  ·intro w' hSw
   go_simp
   try with_reducible rfl
  simp only[Act.put,List.setIfInBounds_toArray,List.set_cons_zero,List.set_cons_succ]
  refine z0n 30 (some 141) (v:=.int .u32 vv) rfl rfl (by kernel_rfl) (by kernel_rfl) (by kernel_rfl) (fun _ _ _ h=>h) (Or.inl ⟨by rfl,fun w' hSw=>run_word_is rfl 4 rfl hSw.2.2.1 HVV.out⟩) (by assumption) ?_
  simp only[Act.put,List.setIfInBounds_toArray,List.set_cons_zero,List.set_cons_succ]
  refine z0n 31 (some 142) (v:=?_) rfl rfl (by kernel_rfl) (by kernel_rfl) (by kernel_rfl) (fun _ _ _ h=>h) (Or.inl ⟨by rfl,?_⟩) (by assumption) ?_
  rotate_left
  ·intro w' hSw
   go_simp
   try with_reducible rfl
  simp only[Act.put,List.setIfInBounds_toArray,List.set_cons_zero,List.set_cons_succ]
  refine z0n 32 (some 143) (v:=?_) rfl rfl (by kernel_rfl) (by kernel_rfl) (by kernel_rfl) (fun _ _ _ h=>h) (Or.inl ⟨by rfl,?_⟩) (by assumption) ?_
  rotate_left
  ·intro w' hSw
   go_simp
   try with_reducible rfl
  simp only[Act.put,List.setIfInBounds_toArray,List.set_cons_zero,List.set_cons_succ]
  refine z0n 33 (some 144) (v:=?_) rfl rfl (by kernel_rfl) (by kernel_rfl) (by kernel_rfl) (fun _ _ _ h=>h) (Or.inl ⟨by rfl,?_⟩) (by assumption) ?_
  rotate_left
  ·intro w' hSw
   go_simp
   try with_reducible rfl
  simp only[Act.put,List.setIfInBounds_toArray,List.set_cons_zero,List.set_cons_succ]
  refine z0n 34 (some 145) (v:=?_) rfl rfl (by kernel_rfl) (by kernel_rfl) (by kernel_rfl) (fun _ _ _ h=>h) (Or.inl ⟨by rfl,?_⟩) (by assumption) ?_
  rotate_left
  ·intro w' hSw
   go_simp
   try with_reducible rfl
  simp only[Act.put,List.setIfInBounds_toArray,List.set_cons_zero,List.set_cons_succ]
  refine z0n 35 (some 146) (v:=.int .u32 8) rfl rfl (by kernel_rfl) (by kernel_rfl) (by kernel_rfl) (fun _ _ _ h=>h) (Or.inl ⟨by rfl,fun w' hSw=>run_reg_is rfl 38 rfl hSw.1 (by decide) (by decide) R1.out.epc⟩) (by assumption) ?_
  simp only[Act.put,List.setIfInBounds_toArray,List.set_cons_zero,List.set_cons_succ]
  refine z0n 36 (some 147) (v:=?_) rfl rfl (by kernel_rfl) (by kernel_rfl) (by kernel_rfl) (fun _ _ _ h=>h) (Or.inl ⟨by rfl,?_⟩) (by assumption) ?_
  rotate_left
  ·intro w' hSw
   go_simp
   try with_reducible rfl
  simp only[Act.put,List.setIfInBounds_toArray,List.set_cons_zero,List.set_cons_succ]
  refine z0n 37 (some 148) (v:=?_) rfl rfl (by kernel_rfl) (by kernel_rfl) (by kernel_rfl) (fun _ _ _ h=>h) (Or.inl ⟨by rfl,?_⟩) (by assumption) ?_
  rotate_left
  ·intro w' hSw
   go_simp
   try with_reducible rfl
  simp only[Act.put,List.setIfInBounds_toArray,List.set_cons_zero,List.set_cons_succ]
  refine z0n 38 (some 149) (v:=?_) rfl rfl (by kernel_rfl) (by kernel_rfl) (by kernel_rfl) (fun _ _ _ h=>h) (Or.inl ⟨by rfl,?_⟩) (by assumption) ?_
  rotate_left
  ·intro w' hSw
   go_simp
   try with_reducible rfl
  simp only[Act.put,List.setIfInBounds_toArray,List.set_cons_zero,List.set_cons_succ]
  refine z0n 39 (some 150) (v:=?_) rfl rfl (by kernel_rfl) (by kernel_rfl) (by kernel_rfl) (fun _ _ _ h=>h) (Or.inl ⟨by rfl,?_⟩) (by assumption) ?_
  rotate_left
  ·intro w' hSw
   go_simp
   try with_reducible rfl
  simp only[Act.put,List.setIfInBounds_toArray,List.set_cons_zero,List.set_cons_succ]
  have ct:=fun V (hV:Below w13.heap.size w13 V)=>HK.out.time (O13.out.below HK.out hV).imp
  rw[HTT.out] at ct
  refine z5q 40 (some 151) 17 #[.pointer (some ⟨p,0,none⟩)] rfl rfl (by rfl) (by kernel_rfl) (by kernel_rfl) (Calls.mono (ct _ hHeld.2.2.2) ?_)
  rintro e w14 ⟨rfl,b14⟩
  have hH2:=hHeld
  clear hHeld
  refine⟨_,rfl,⟨z0f hH2.1 b14,z0f hH2.2.1 b14,z0f hH2.2.2.1 b14,z0e hH2.2.2.2 b14⟩,fun hHeld=>?_⟩
  simp only[Act.put,List.setIfInBounds_toArray,List.set_cons_zero,List.set_cons_succ]
  refine z0n 41 (some 152) (v:=?_) rfl rfl (by kernel_rfl) (by kernel_rfl) (by kernel_rfl) (fun _ _ _ h=>h) (Or.inl ⟨by rfl,?_⟩) (by assumption) ?_
  rotate_left
  ·intro w' hSw
   go_simp
   try with_reducible rfl
  simp only[Act.put,List.setIfInBounds_toArray,List.set_cons_zero,List.set_cons_succ]
  refine z0n 42 (some 153) (v:=?_) rfl rfl (by kernel_rfl) (by kernel_rfl) (by kernel_rfl) (fun _ _ _ h=>h) (Or.inl ⟨by rfl,?_⟩) (by assumption) ?_
  rotate_left
  ·intro w' hSw
   go_simp
   try with_reducible rfl
  simp only[Act.put,List.setIfInBounds_toArray,List.set_cons_zero,List.set_cons_succ]
  refine wpAnyH_done (by kernel_rfl) ?_ _
  refine NoPanic.normal ?_
  have B14:Hid _:=hHeld.2.2.2
  have I14:Hid _:=z0f I13.out B14.out
  have O14:Hid _:=O13.out.below HK.out B14.out
  clear hHeld B14 I13 O13 S13h R13 V13
  go_wp2_with fail
  go_loopw [19] (fun i wr=>∃ j:Nat,j≤6∧i=.int .i64 j∧Hid (Below w14.heap.size w14 wr)) (fun i _=>6-(intOf i).toNat)
  case atStart=>exact⟨0,Nat.zero_le _,rfl,Below.refl _ _⟩
  case round=>
   obtain⟨j,hj,rfl,hbr⟩:=hrel
   have O15:Hid _:=O14.out.below HK.out hbr.out
   have I15:Hid _:=z0f I14.out hbr.out
   by_cases hlt:j<6
   ·have v1:4*(j:Int)%4294967296=4*(j:Int):=by omega
    have v2:wrap64 (4*(j:Int))=4*(j:Int):=z0y (by omega) (by omega)
    have j0:(0:Int)≤(j:Int):=by omega
    have j1:(j:Int)<6:=by omega
    have cw:=O15.out.word HK.out j hlt (by decide) (4*(j:Int)) rfl
    have HY:Hid ((wordsC [1,2,W,4,5,6])[j]?=some (.int .u32 (z0p [1,2,W,4,5,6] j))):=wordsC_at _ j hlt
    have CW2:Hid _:=cw
    clear cw
    generalize z0p [1,2,W,4,5,6] j=y at *
    go_wp2_with fail
    refine Calls.mono CW2.out ?_
    rintro e w16 ⟨rfl,b16⟩
    have I16:=z0f I15.out b16
    have B16:Hid _:=z0e hbr.out b16
    clear b16 I15 O15 CW2 hbr
    go_wp2_with (first | (refine z0w (by rfl) 24 (.tmp 168) rfl w.heap.size 20 rfl #[.string S,.int .i64 d,.int .i64 a,.int .i64 b,.int .i32 m] _ (HI.out _ _ _ I16) HFI.out rfl infoIns ?_))
    refine (CW.out _).mono ?_
    rintro e w17 ⟨rfl,b17⟩
    have B17:Hid _:=z0e B16.out b17
    have B18:Hid (Below w14.heap.size w14 (w17.alloc (.cells #[.int .u32 1,.int .u32 2,.int .u32 W,.int .u32 4,.int .u32 5,.int .u32 6] 31))):=B17.out.alloc B17.out.size _
    clear b17 I16 B16
    go_wp2_with (first | (go_at_call 13;refine (zErr6 _ _).mono ?_;rintro e wq ⟨rfl,hwq⟩;rw[hwq];clear hwq wq) | (refine z8k (v:=.int .u32 y) rfl rfl rfl (show _=some (.cells (wordsC [1,2,W,4,5,6]) 31) from z0g w17 _) HY.out ?_))
    exact⟨⟨j+1,hlt,by go_num,B18.out⟩,by simp[intOf];omega⟩
   ·have hj6:j=6:=by omega
    subst hj6
    go_wp2_with fail
    refine Calls.mono (kawake6 HK.out _) ?_
    rintro e w16 ⟨rfl,b16⟩
    have O16:Hid _:=O15.out.below HK.out b16
    go_wp2
    go_ret
    exact⟨rfl,O16.out.bel⟩
theorem faults4u {Is:z6d} (K:CoreK Is) (which x odd far:Int) (hwh:0≤which∧which≤255) (hx:U32 x) (hwk:which.tmod 10=4) (ho:bits .or .u32 x 1=odd) (hf:1048576+x%4*4=far) (w:World) :
  Calls Tryz.prog 7 #[.int .u8 which,.int .u32 x,.bool true] w fun e w'=>e=.returned (.bool true)∧Below w.heap.size w w':=by
 have HK:Hid _:=K
 have t1:x.tmod 4=x%4:=Int.tmod_eq_emod_of_nonneg hx.1
 have od:=odd_of hx
 rw[ho] at od
 have hfar:1048576≤far∧far<1048592∧far%4=0:=by omega
 obtain⟨S,d,a,b,m,hI,hS⟩:=fault_at 4 (by omega)
 obtain⟨W,hW⟩:∃ W,W=putN (insF.getD 4 ⟨[],0,0,0,0⟩):=⟨_,rfl⟩
 have CW:Hid (∀ V:World,Calls Tryz.prog 12 #[.agg #[.string S,.int .i64 d,.int .i64 a,.int .i64 b,.int .i32 m]] V fun e w'=>e=.returned (.int .u32 W)∧Below V.heap.size V w'):=fun V=>by
  have:=kWord S d a b m V
  rw[hS,← hW] at this
  exact this
 obtain⟨s,p1,r1⟩:=fault_plain (x:=x) (odd:=odd) (far:=far) (u:=true) od.1 od.2 hfar 4 (by omega) hW
 have P1:Hid _:=p1
 have R1:Hid _:=r1
 have HI:Hid _:=hI
 have HV:Hid _:=fault_val 4 (by omega) odd far W hW
 have HCA:Hid _:=fault_cause 4 (by omega)
 have hWu:U32 W:=by rw[hW];exact putN_u _
 have HU:Hid (∀ j,U32 (z0p [1,2,W,4,5,6] j)):=word_u fun z hz=>by
  simp only[List.mem_cons,List.not_mem_nil,or_false] at hz
  rcases hz with rfl | rfl | rfl | rfl | rfl | rfl
  all_goals first | exact hWu | exact⟨by decide,by decide⟩
 have HF:Hid (∀ i,U32 (faultF x odd far i)):=z4m (z4m (z4m (z4m (z4m (z4m (z4m (fun _=>(⟨by decide,by decide⟩:U32 0)) 32 ⟨by decide,by decide⟩) 36 ⟨by decide,by decide⟩) 42 ⟨by decide,by decide⟩) 1 ⟨by decide,by decide⟩) 2 od.2) 3 hx) 4 ⟨by omega,by omega⟩
 have hq:=eqPtr2
 have hmo:Tryz.prog.follows .mixedOrders=true:=by kernel_rfl
 obtain⟨fi,hfi⟩:=undIns
 have HFI:Hid _:=hfi
 obtain⟨fs,hfs⟩:=z3f
 have HS:Hid _:=hfs
 have I0:Hid (((w.alloc (.cells insL 24)).alloc (.cells #[.int .u32 4,.int .u32 4,.int .u32 6,.int .u32 6,.int .u32 11,.int .u32 3,.int .u32 5,.int .u32 7,.int .u32 2,.int .u32 2] 31)).heap[w.heap.size]?=some (.cells insL 24)):=z0m ((Below.refl _ _).alloc (Nat.le_refl _) _)
 have C0:Hid (((w.alloc (.cells insL 24)).alloc (.cells #[.int .u32 4,.int .u32 4,.int .u32 6,.int .u32 6,.int .u32 11,.int .u32 3,.int .u32 5,.int .u32 7,.int .u32 2,.int .u32 2] 31)).heap[w.heap.size+1]?=some (.cells #[.int .u32 4,.int .u32 4,.int .u32 6,.int .u32 6,.int .u32 11,.int .u32 3,.int .u32 5,.int .u32 7,.int .u32 2,.int .u32 2] 31)):=by
  have:=z0g (w.alloc (.cells insL 24)) (.cells #[.int .u32 4,.int .u32 4,.int .u32 6,.int .u32 6,.int .u32 11,.int .u32 3,.int .u32 5,.int .u32 7,.int .u32 2,.int .u32 2] 31)
  rw[World.size_alloc] at this
  exact this
 have B0:Hid (Below w.heap.size w ((w.alloc (.cells insL 24)).alloc (.cells #[.int .u32 4,.int .u32 4,.int .u32 6,.int .u32 6,.int .u32 11,.int .u32 3,.int .u32 5,.int .u32 7,.int .u32 2,.int .u32 2] 31))):=box2
 have HFAR:Hid _:=hfar
 clear K p1 r1 hI hW hfi hfs hS hWu
 go_enter Tryz.func7,Tryz.ntmps7
 go_wp2_with fail
 refine z1b 16 [] [.int .u32 odd,.int .u32 odd,.int .u32 odd,.int .u32 odd,.int .u32 far,.int .u32 far,.slice (some ⟨w.heap.size,0,none⟩) 10 10,.int .i64 4,.pointer (some ⟨w.heap.size,20,none⟩),.agg #[.string S,.int .i64 d,.int .i64 a,.int .i64 b,.int .i32 m],.int .u32 W,.slice (some ⟨w.heap.size,0,none⟩) 10 10,.int .i64 4,.pointer (some ⟨w.heap.size,20,none⟩),.agg #[.string S,.int .i64 d,.int .i64 a,.int .i64 b,.int .i32 m],.int .u32 W] hmo (by kernel_rfl) (by kernel_rfl) (by intro r hr;cases hr) ?_ (by intro r hr;cases hr) (by intro r hr;cases hr) ?_
 ·generalize hl:lay _ _ _=af
  have e7:af.tmps[7]?.getD undef=.int .u32 odd:=by rw[← hl];kernel_rfl
  have e10:af.tmps[10]?.getD undef=.int .u32 far:=by rw[← hl];kernel_rfl
  have e8:af.tmps[8]?.getD undef=.slice (some ⟨w.heap.size,0,none⟩) 10 10:=by rw[← hl];kernel_rfl
  have e9:af.tmps[9]?.getD undef=.int .i64 4:=by rw[← hl];kernel_rfl
  have e52:af.tmps[52]?.getD undef=.slice (some ⟨w.heap.size,0,none⟩) 10 10:=by rw[← hl];kernel_rfl
  have e53:af.tmps[53]?.getD undef=.int .i64 4:=by rw[← hl];kernel_rfl
  have e55:af.tmps[55]?.getD undef=.agg #[.string S,.int .i64 d,.int .i64 a,.int .i64 b,.int .i32 m]:=by rw[← hl];kernel_rfl
  have e57:af.tmps[57]?.getD undef=.slice (some ⟨w.heap.size,0,none⟩) 10 10:=by rw[← hl];kernel_rfl
  have e58:af.tmps[58]?.getD undef=.int .i64 4:=by rw[← hl];kernel_rfl
  have e60:af.tmps[60]?.getD undef=.agg #[.string S,.int .i64 d,.int .i64 a,.int .i64 b,.int .i32 m]:=by rw[← hl];kernel_rfl
  have v54:af.eval (.tmp 54)=.pointer (some ⟨w.heap.size,20,none⟩):=by rw[← hl];kernel_rfl
  have v59:af.eval (.tmp 59)=.pointer (some ⟨w.heap.size,20,none⟩):=by rw[← hl];kernel_rfl
  clear hl
  refine And.intro (fun w' hw=>z0d (by simp[execOp,go_sem,e7])) ?_
  refine And.intro (fun w' hw=>z0d (by simp[execOp,go_sem,e7])) ?_
  refine And.intro (fun w' hw=>z0d (by simp[execOp,go_sem,e7])) ?_
  refine And.intro (fun w' hw=>z0d (by simp[execOp,go_sem,e7])) ?_
  refine And.intro (fun w' hw=>z0d (by simp[execOp,go_sem,e10])) ?_
  refine And.intro (fun w' hw=>z0d (by simp[execOp,go_sem,e10])) ?_
  refine And.intro (fun w' hw=>z0d (by simp[execOp,go_sem,e8])) ?_
  refine And.intro (fun w' hw=>z0d (by simp[execOp,go_sem,e9])) ?_
  refine And.intro (fun w' hw=>z0d (by simp[execOp,go_sem,e52,e53])) ?_
  refine And.intro (fun w' hw=>z8x 24 (.tmp 54) rfl w.heap.size 20 v54 #[.string S,.int .i64 d,.int .i64 a,.int .i64 b,.int .i32 m] _ (HI.out _ _ _ (z0f I0.out hw)) HFI.out rfl infoIns) ?_
  refine And.intro (fun w' hw=>z1k 12 #[.agg #[.string S,.int .i64 d,.int .i64 a,.int .i64 b,.int .i32 m]] (by simp[go_sem,e55]) (CW.out _)) ?_
  refine And.intro (fun w' hw=>z0d (by simp[execOp,go_sem,e8])) ?_
  refine And.intro (fun w' hw=>z0d (by simp[execOp,go_sem,e9])) ?_
  refine And.intro (fun w' hw=>z0d (by simp[execOp,go_sem,e57,e58])) ?_
  refine And.intro (fun w' hw=>z8x 24 (.tmp 59) rfl w.heap.size 20 v59 #[.string S,.int .i64 d,.int .i64 a,.int .i64 b,.int .i32 m] _ (HI.out _ _ _ (z0f I0.out hw)) HFI.out rfl infoIns) ?_
  refine And.intro (fun w' hw=>z1k 12 #[.agg #[.string S,.int .i64 d,.int .i64 a,.int .i64 b,.int .i32 m]] (by simp[go_sem,e60]) (CW.out _)) ?_
  exact True.intro
 ·intro β3 W3 hW3 _ _
  have I3:=z0f I0.out hW3
  have C3:=z0f C0.out hW3
  have B3:Hid _:=z0e B0.out hW3
  clear hW3 I0 C0 B0
  simp[z3o,lay,Act.put]
  have V4:=z0g W3 (.cells #[.int .u32 odd,.int .u32 odd,.int .u32 odd,.int .u32 odd,.int .u32 0,.int .u32 8,.int .u32 far,.int .u32 far,.int .u32 W,.int .u32 W] 31)
  have a4:Below W3.heap.size W3 (W3.alloc (.cells #[.int .u32 odd,.int .u32 odd,.int .u32 odd,.int .u32 odd,.int .u32 0,.int .u32 8,.int .u32 far,.int .u32 far,.int .u32 W,.int .u32 W] 31)):=(Below.refl _ _).alloc (Nat.le_refl _) _
  have I4:=z0f I3 a4
  have C4:=z0f C3 a4
  have B4:Hid _:=z0e B3.out a4
  clear a4 I3 C3 B3
  obtain⟨c0,hc0⟩:∃ c0:Int,c0=(11:Int):=⟨_,rfl⟩
  have HCB:Hid ((#[.int .u32 4,.int .u32 4,.int .u32 6,.int .u32 6,.int .u32 11,.int .u32 3,.int .u32 5,.int .u32 7,.int .u32 2,.int .u32 2]:Array Value)[4]?=some (.int .u32 c0)):=by rw[hc0];exact HCA.out
  have HC0:Hid _:=hc0
  clear HCA hc0
  go_wp2_with (first | (refine z8k (v:=.int .u32 c0) rfl rfl rfl C4 HCB.out ?_) | (refine z0w (by rfl) 24 (.tmp 75) rfl w.heap.size 20 rfl #[.string S,.int .i64 d,.int .i64 a,.int .i64 b,.int .i32 m] _ (HI.out _ _ _ I4) HFI.out rfl infoIns ?_))
  refine (CW.out _).mono ?_
  rintro e w5 ⟨rfl,b5⟩
  have I5:=z0f I4 b5
  have V5:=z0f V4 b5
  have B5:Hid _:=z0e B4.out b5
  clear b5 I4 V4 B4 C4 HCB
  generalize W3.heap.size=vb at *
  go_wp2_with fail
  have L6:(w5.alloc (.cells #[.int .u32 1,.int .u32 2,.int .u32 W,.int .u32 4,.int .u32 5,.int .u32 6] 31)).heap[w5.heap.size]?=some (.cells (wordsC [1,2,W,4,5,6]) 31):=z0g w5 _
  have a6:Below w5.heap.size w5 (w5.alloc (.cells #[.int .u32 1,.int .u32 2,.int .u32 W,.int .u32 4,.int .u32 5,.int .u32 6] 31)):=(Below.refl _ _).alloc (Nat.le_refl _) _
  have I6:=z0f I5 a6
  have V6:=z0f V5 a6
  have B6:Hid _:=z0e B5.out a6
  clear a6 I5 V5 B5
  generalize w5.alloc (.cells #[.int .u32 1,.int .u32 2,.int .u32 W,.int .u32 4,.int .u32 5,.int .u32 6] 31)=w6 at *
  have hc:=words_cells L6
  have hb:=(Array.getElem?_eq_some_iff.1 L6).1
  refine Calls.mono (One.new HK.out w5.heap.size 0 6 [1,2,W,4,5,6] (.slice none 0 0) [] B6.out (show 0<6 by decide) (show 6≤1000 by decide) HU.out hb hc (no_late _) (by decide)) ?_
  rintro e w7 ⟨p,F7,rfl,o7,b7,q7⟩
  have O7:Hid (One Is w [] p 6 0 w7 F7 (newC undef undef) [1,2,W,4,5,6] []):=o7
  have I7:=z0f I6 b7
  have V7:=z0f V6 b7
  have AI7:Hid (Away F7 w7 w.heap.size):=⟨(Array.getElem?_eq_some_iff.1 I7).1,fun e=>by have:=q7 _ e;have:=(Array.getElem?_eq_some_iff.1 I6).1;omega⟩
  have AV7:Hid (Away F7 w7 vb):=⟨(Array.getElem?_eq_some_iff.1 V7).1,fun e=>by have:=q7 _ e;have:=(Array.getElem?_eq_some_iff.1 V6).1;omega⟩
  have NR:Hid (¬F7 w7.heap.size):=fun e=>Nat.lt_irrefl _ (HK.out.lt o7.imp _ e)
  clear hc hb o7 b7 q7 I6 V6 B6 L6
  go_wp2_with (first | (go_at_call 13;refine (zErr6 _ _).mono ?_;rintro e wq ⟨rfl,hwq⟩;rw[hwq];clear hwq wq) | (refine z4p rfl 37 (.tmp 16) (.tmp 90) rfl rfl (z0c (set1 (set1 (fun _=>0) 32 8) 36 16) true) rfl 37 _ (by rw[z0b];exact z0o) (by rw[z8d,z0b,z0b]) (z0s _ _) ?_))
  intro w8 R8 b8
  go_wp2_with (first | (refine z0h rfl rfl rfl rfl (by assumption) (by decide) (by decide) ?_;intro wn Rn HO HL;have Bn:=HL w7.heap.size w7 (Nat.le_refl _) (by assumption);clear HO HL) | (refine z7d (by rfl) 37 (.tmp 16) rfl w7.heap.size rfl 37 (z0c (faultF x odd far) true) _ (by assumption) HS.out rfl (by rw[z0b];exact z0o) ?_))
  have O9:Hid _:=O7.out.below HK.out Bn
  have I9:=z0f I7 Bn
  have V9:=z0f V7 Bn
  have R9:wn.heap[w7.heap.size]?=some (.cells (z0c (faultF x odd far) true) 37):=Rn
  have AI9:Hid _:=AI7.out.below Bn
  have AV9:Hid _:=AV7.out.below Bn
  have AR9:Hid (Away F7 wn w7.heap.size):=⟨(Array.getElem?_eq_some_iff.1 R9).1,NR.out⟩
  clear Bn Rn b8 R8 O7 I7 V7 AI7 AV7 NR
  generalize w7.heap.size=rb at *
  refine Calls.mono (One.put HK.out O9.out (faultF x odd far) true HF.out) ?_
  rintro e w10 ⟨rfl,F10,o10,c10,f10⟩
  have O10:Hid (One Is w [] p 6 0 w10 F10 (begC (faultF x odd far) true) [1,2,W,4,5,6] []):=o10
  have I10:=c10.kept I9 AI9.out.no
  have V10:=c10.kept V9 AV9.out.no
  have R10:=c10.kept R9 AR9.out.no
  have AI10:Hid _:=AI9.out.next c10 f10
  have AV10:Hid _:=AV9.out.next c10 f10
  have AR10:Hid _:=AR9.out.next c10 f10
  clear o10 c10 f10 O9 I9 V9 R9 AI9 AV9 AR9
  go_wp2_with fail
  have st:=One.step HK.out O10.out (by decide) (by decide) (by decide) no_lates
  rw[P1.out,show (begC (faultF x odd far) true).stop=false from rfl] at st
  refine Calls.mono st ?_
  rintro e w11 ⟨rfl,F11,o11,c11,f11⟩
  have O11:Hid (One Is w [] p 6 1 w11 F11 s [1,2,W,4,5,6] []):=o11
  have I11:=c11.kept I10 AI10.out.no
  have V11:=c11.kept V10 AV10.out.no
  have R11:=c11.kept R10 AR10.out.no
  clear o11 c11 f11 O10 I10 V10 R10 AI10 AV10 AR10 st
  go_wp2_with fail
  refine Calls.mono (HK.out.regs O11.out.imp) ?_
  rintro e w12 ⟨rfl,b12⟩
  have O12:Hid _:=O11.out.below HK.out b12
  have I12:=z0f I11 b12
  have V12:=z0f V11 b12
  have R12:=z0f R11 b12
  clear b12 O11 I11 V11 R11
  go_wp2_with (first | (refine z4p rfl 37 (.tmp 18) (.tmp 110) rfl rfl (z0c _ _) rfl 37 _ (by rw[z0b];exact z0o) (by rw[z8d,z0b,z0b]) (z0s _ _) ?_))
  intro w13 S13 b13
  have O13:Hid _:=O12.out.below HK.out b13
  have I13:Hid _:=z0f I12 b13
  have V13:Hid _:=z0f V12 b13
  have R13:Hid _:=z0f R12 b13
  have S13h:Hid _:=S13
  clear b13 O12 I12 V12 R12 S13
  generalize w12.heap.size=sb at *
  have hnx:=neqX32 (faultF x odd far)
  have X1:Hid (x32 s.f=x32 (faultF x odd far)):=x32_ext R1.out.x
  have KC:Hid (s.f 39=8):=R1.out.cause
  obtain⟨vv,hvv⟩:∃ vv,vv=valF 4 odd far:=⟨_,rfl⟩
  have HVV:Hid ((#[.int .u32 odd,.int .u32 odd,.int .u32 odd,.int .u32 odd,.int .u32 0,.int .u32 8,.int .u32 far,.int .u32 far,.int .u32 W,.int .u32 W]:Array Value)[4]?=some (.int .u32 vv)):=by rw[hvv];exact HV.out
  have KV:Hid (s.f 40=vv):=by rw[hvv];exact R1.out.val
  clear hvv HV
  have HTT:Hid (s.t=4):=R1.out.t
  have HST:=R1
  clear HST
  go_wp2_with fail
  refine wp_region_noPanic ?_
  refine wp_region_held_drew (S:=fun V=>V.heap[sb]?=some (.cells (z0c s.f s.u) 37)∧V.heap[rb]?=some (.cells (z0c (faultF x odd far) true) 37)∧V.heap[vb]?=some (.cells #[.int .u32 odd,.int .u32 odd,.int .u32 odd,.int .u32 odd,.int .u32 0,.int .u32 8,.int .u32 far,.int .u32 far,.int .u32 W,.int .u32 W] 31)∧Below w13.heap.size w13 V) (by kernel_rfl) ⟨S13h.out,R13.out,V13.out,(Below.refl _ _).drew⟩ (fun hHeld=>?_)
  refine z0n 0 (some 111) (v:=?_) rfl rfl (by kernel_rfl) (by kernel_rfl) (by kernel_rfl) (fun _ _ _ h=>h) (Or.inl ⟨by rfl,?_⟩) (by assumption) ?_
  rotate_left
  ·intro w' hSw
   go_simp
   try with_reducible rfl
  simp only[Act.put,List.setIfInBounds_toArray,List.set_cons_zero,List.set_cons_succ]
  refine z0n 1 (some 112) (v:=?_) rfl rfl (by kernel_rfl) (by kernel_rfl) (by kernel_rfl) (fun _ _ _ h=>h) (Or.inl ⟨by rfl,?_⟩) (by assumption) ?_
  rotate_left
  ·intro w' hSw
   go_simp
   try with_reducible rfl
  simp only[Act.put,List.setIfInBounds_toArray,List.set_cons_zero,List.set_cons_succ]
  refine z0n 2 (some 113) (v:=?_) rfl rfl (by kernel_rfl) (by kernel_rfl) (by kernel_rfl) (fun _ _ _ h=>h) (Or.inl ⟨by rfl,?_⟩) (by assumption) ?_
  rotate_left
  ·intro w' hSw
   go_simp
   try with_reducible rfl
  simp only[Act.put,List.setIfInBounds_toArray,List.set_cons_zero,List.set_cons_succ]
  refine z0n 3 (some 114) (v:=?_) rfl rfl (by kernel_rfl) (by kernel_rfl) (by kernel_rfl) (fun _ _ _ h=>h) (Or.inl ⟨by rfl,?_⟩) (by assumption) ?_
  rotate_left
  ·intro w' hSw
   go_simp
   try with_reducible rfl
  simp only[Act.put,List.setIfInBounds_toArray,List.set_cons_zero,List.set_cons_succ]
  refine z0n 4 (some 115) (v:=.agg (x32 (faultF x odd far))) rfl rfl (by kernel_rfl) (by kernel_rfl) (by kernel_rfl) (fun _ _ _ h=>h) (Or.inl ⟨by rfl,fun w' hSw=>run_mids 34 (.tmp 114) rfl sb 0 rfl (x32 (faultF x odd far)) _ (by rw[← X1.out];exact x32_range hSw.1) undX32 rfl (by rw[x32_size];exact info32)⟩) (by assumption) ?_
  simp only[Act.put,List.setIfInBounds_toArray,List.set_cons_zero,List.set_cons_succ]
  refine z0n 5 (some 116) (v:=?_) rfl rfl (by kernel_rfl) (by kernel_rfl) (by kernel_rfl) (fun _ _ _ h=>h) (Or.inl ⟨by rfl,?_⟩) (by assumption) ?_
  rotate_left
  ·intro w' hSw
   go_simp
   try with_reducible rfl
  simp only[Act.put,List.setIfInBounds_toArray,List.set_cons_zero,List.set_cons_succ]
  refine z0n 6 (some 117) (v:=.agg (x32 (faultF x odd far))) rfl rfl (by kernel_rfl) (by kernel_rfl) (by kernel_rfl) (fun _ _ _ h=>h) (Or.inl ⟨by rfl,fun w' hSw=>run_mids 34 (.tmp 116) rfl rb 0 rfl (x32 (faultF x odd far)) _ (x32_range hSw.2.1) undX32 rfl (by rw[x32_size];exact info32)⟩) (by assumption) ?_
  simp only[Act.put,List.setIfInBounds_toArray,List.set_cons_zero,List.set_cons_succ]
  refine z0n 7 (some 118) (v:=?_) rfl rfl (by kernel_rfl) (by kernel_rfl) (by kernel_rfl) (fun _ _ _ h=>h) (Or.inl ⟨by rfl,?_⟩) (by assumption) ?_
  rotate_left
  ·intro w' hSw
   go_simp
   try with_reducible rfl
  simp only[Act.put,List.setIfInBounds_toArray,List.set_cons_zero,List.set_cons_succ]
  refine z0n 8 (some 119) (v:=?_) rfl rfl (by kernel_rfl) (by kernel_rfl) (by kernel_rfl) (fun _ _ _ h=>h) (Or.inl ⟨by rfl,?_⟩) (by assumption) ?_
  rotate_left
  ·intro w' hSw
   go_simp
   try with_reducible rfl
  simp only[Act.put,List.setIfInBounds_toArray,List.set_cons_zero,List.set_cons_succ]
  refine z0n 9 (some 120) (v:=?_) rfl rfl (by kernel_rfl) (by kernel_rfl) (by kernel_rfl) (fun _ _ _ h=>h) (Or.inl ⟨by rfl,?_⟩) (by assumption) ?_
  rotate_left
  ·intro w' hSw
   go_simp
   try with_reducible rfl
  simp only[Act.put,List.setIfInBounds_toArray,List.set_cons_zero,List.set_cons_succ]
  refine z0n 10 (some 121) (v:=?_) rfl rfl (by kernel_rfl) (by kernel_rfl) (by kernel_rfl) (fun _ _ _ h=>h) (Or.inl ⟨by rfl,?_⟩) (by assumption) ?_
  rotate_left
  ·intro w' hSw
   go_simp
   try with_reducible rfl
  simp only[Act.put,List.setIfInBounds_toArray,List.set_cons_zero,List.set_cons_succ]
  refine z0n 11 (some 122) (v:=.int .u32 16) rfl rfl (by kernel_rfl) (by kernel_rfl) (by kernel_rfl) (fun _ _ _ h=>h) (Or.inl ⟨by rfl,fun w' hSw=>run_reg_is rfl 32 rfl hSw.1 (by decide) (by decide) R1.out.pc⟩) (by assumption) ?_
  simp only[Act.put,List.setIfInBounds_toArray,List.set_cons_zero,List.set_cons_succ]
  refine z0n 12 (some 123) (v:=?_) rfl rfl (by kernel_rfl) (by kernel_rfl) (by kernel_rfl) (fun _ _ _ h=>h) (Or.inl ⟨by rfl,?_⟩) (by assumption) ?_
  rotate_left
  ·intro w' hSw
   go_simp
   try with_reducible rfl
  simp only[Act.put,List.setIfInBounds_toArray,List.set_cons_zero,List.set_cons_succ]
  refine z0n 13 (some 124) (v:=?_) rfl rfl (by kernel_rfl) (by kernel_rfl) (by kernel_rfl) (fun _ _ _ h=>h) (Or.inl ⟨by rfl,?_⟩) (by assumption) ?_
  rotate_left
  ·intro w' hSw
   go_simp
   try with_reducible rfl
  simp only[Act.put,List.setIfInBounds_toArray,List.set_cons_zero,List.set_cons_succ]
  refine z0n 14 (some 125) (v:=?_) rfl rfl (by kernel_rfl) (by kernel_rfl) (by kernel_rfl) (fun _ _ _ h=>h) (Or.inl ⟨by rfl,?_⟩) (by assumption) ?_
  rotate_left
  ·intro w' hSw
   go_simp
   try with_reducible rfl
  simp only[Act.put,List.setIfInBounds_toArray,List.set_cons_zero,List.set_cons_succ]
  refine z0n 15 (some 126) (v:=?_) rfl rfl (by kernel_rfl) (by kernel_rfl) (by kernel_rfl) (fun _ _ _ h=>h) (Or.inl ⟨by rfl,?_⟩) (by assumption) ?_
  rotate_left
  ·intro w' hSw
   go_simp
   try with_reducible rfl
  simp only[Act.put,List.setIfInBounds_toArray,List.set_cons_zero,List.set_cons_succ]
  refine z0n 16 (some 127) (v:=.bool false) rfl rfl (by kernel_rfl) (by kernel_rfl) (by kernel_rfl) (fun _ _ _ h=>h) (Or.inl ⟨by rfl,fun w' hSw=>run_user_is rfl rfl hSw.1 R1.out.u⟩) (by assumption) ?_
  simp only[Act.put,List.setIfInBounds_toArray,List.set_cons_zero,List.set_cons_succ]
  refine z0n 17 (some 128) (v:=?_) rfl rfl (by kernel_rfl) (by kernel_rfl) (by kernel_rfl) (fun _ _ _ h=>h) (Or.inl ⟨by rfl,?_⟩) (by assumption) ?_
  rotate_left
  ·intro w' hSw
   go_simp
   try with_reducible rfl
  simp only[Act.put,List.setIfInBounds_toArray,List.set_cons_zero,List.set_cons_succ]
  refine z0n 18 (some 129) (v:=?_) rfl rfl (by kernel_rfl) (by kernel_rfl) (by kernel_rfl) (fun _ _ _ h=>h) (Or.inl ⟨by rfl,?_⟩) (by assumption) ?_
  rotate_left
  ·intro w' hSw
   go_simp
   try with_reducible rfl
  simp only[Act.put,List.setIfInBounds_toArray,List.set_cons_zero,List.set_cons_succ]
  refine z0n 19 (some 130) (v:=?_) rfl rfl (by kernel_rfl) (by kernel_rfl) (by kernel_rfl) (fun _ _ _ h=>h) (Or.inl ⟨by rfl,?_⟩) (by assumption) ?_
  rotate_left
  ·intro w' hSw
   go_simp
   try with_reducible rfl
  simp only[Act.put,List.setIfInBounds_toArray,List.set_cons_zero,List.set_cons_succ]
  refine z0n 20 (some 131) (v:=.int .u32 8) rfl rfl (by kernel_rfl) (by kernel_rfl) (by kernel_rfl) (fun _ _ _ h=>h) (Or.inl ⟨by rfl,fun w' hSw=>run_reg_is rfl 39 rfl hSw.1 (by decide) (by decide) KC.out⟩) (by assumption) ?_
  simp only[Act.put,List.setIfInBounds_toArray,List.set_cons_zero,List.set_cons_succ]
  refine z0n 21 (some 132) (v:=?_) rfl rfl (by kernel_rfl) (by kernel_rfl) (by kernel_rfl) (fun _ _ _ h=>h) (Or.inl ⟨by rfl,?_⟩) (by assumption) ?_
  rotate_left
  ·intro w' hSw
   go_simp
   try with_reducible rfl
  simp only[Act.put,List.setIfInBounds_toArray,List.set_cons_zero,List.set_cons_succ]
  refine z0n 22 (some 133) (v:=?_) rfl rfl (by kernel_rfl) (by kernel_rfl) (by kernel_rfl) (fun _ _ _ h=>h) (Or.inl ⟨by rfl,?_⟩) (by assumption) ?_
  rotate_left
  ·intro w' hSw
   go_simp
   try with_reducible rfl
  simp only[Act.put,List.setIfInBounds_toArray,List.set_cons_zero,List.set_cons_succ]
  refine z0n 23 (some 134) (v:=?_) rfl rfl (by kernel_rfl) (by kernel_rfl) (by kernel_rfl) (fun _ _ _ h=>h) (Or.inl ⟨by rfl,?_⟩) (by assumption) ?_
  rotate_left
  ·intro w' hSw
   go_simp
   try with_reducible rfl
  simp only[Act.put,List.setIfInBounds_toArray,List.set_cons_zero,List.set_cons_succ]
  refine z0n 24 (some 135) (v:=?_) rfl rfl (by kernel_rfl) (by kernel_rfl) (by kernel_rfl) (fun _ _ _ h=>h) (Or.inl ⟨by rfl,?_⟩) (by assumption) ?_
  rotate_left
  ·intro w' hSw
   go_simp
   try with_reducible rfl
  simp only[Act.put,List.setIfInBounds_toArray,List.set_cons_zero,List.set_cons_succ]
  refine z0n 25 (some 136) (v:=?_) rfl rfl (by kernel_rfl) (by kernel_rfl) (by kernel_rfl) (fun _ _ _ h=>h) (Or.inl ⟨by rfl,?_⟩) (by assumption) ?_
  rotate_left
  ·intro w' hSw
   go_simp
   try with_reducible rfl
  simp only[Act.put,List.setIfInBounds_toArray,List.set_cons_zero,List.set_cons_succ]
  refine z0n 26 (some 137) (v:=.int .u32 vv) rfl rfl (by kernel_rfl) (by kernel_rfl) (by kernel_rfl) (fun _ _ _ h=>h) (Or.inl ⟨by rfl,fun w' hSw=>run_reg_is rfl 40 rfl hSw.1 (by decide) (by decide) KV.out⟩) (by assumption) ?_
  simp only[Act.put,List.setIfInBounds_toArray,List.set_cons_zero,List.set_cons_succ]
  refine z0n 27 (some 138) (v:=?_) rfl rfl (by kernel_rfl) (by kernel_rfl) (by kernel_rfl) (fun _ _ _ h=>h) (Or.inl ⟨by rfl,?_⟩) (by assumption) ?_
  rotate_left
  ·intro w' hSw
   go_simp
   try with_reducible rfl
  simp only[Act.put,List.setIfInBounds_toArray,List.set_cons_zero,List.set_cons_succ]
  refine z0n 28 (some 139) (v:=?_) rfl rfl (by kernel_rfl) (by kernel_rfl) (by kernel_rfl) (fun _ _ _ h=>h) (Or.inl ⟨by rfl,?_⟩) (by assumption) ?_
  rotate_left
  ·intro w' hSw
   go_simp
   try with_reducible rfl
  simp only[Act.put,List.setIfInBounds_toArray,List.set_cons_zero,List.set_cons_succ]
  refine z0n 29 (some 140) (v:=?_) rfl rfl (by kernel_rfl) (by kernel_rfl) (by kernel_rfl) (fun _ _ _ h=>h) (Or.inl ⟨by rfl,?_⟩) (by assumption) ?_
  rotate_left
  ·intro w' hSw
   go_simp
   try with_reducible rfl
  simp only[Act.put,List.setIfInBounds_toArray,List.set_cons_zero,List.set_cons_succ]
  refine z0n 30 (some 141) (v:=.int .u32 vv) rfl rfl (by kernel_rfl) (by kernel_rfl) (by kernel_rfl) (fun _ _ _ h=>h) (Or.inl ⟨by rfl,fun w' hSw=>run_word_is rfl 4 rfl hSw.2.2.1 HVV.out⟩) (by assumption) ?_
  simp only[Act.put,List.setIfInBounds_toArray,List.set_cons_zero,List.set_cons_succ]
  refine z0n 31 (some 142) (v:=?_) rfl rfl (by kernel_rfl) (by kernel_rfl) (by kernel_rfl) (fun _ _ _ h=>h) (Or.inl ⟨by rfl,?_⟩) (by assumption) ?_
  rotate_left
  ·intro w' hSw
   go_simp
   try with_reducible rfl
  simp only[Act.put,List.setIfInBounds_toArray,List.set_cons_zero,List.set_cons_succ]
  refine z0n 32 (some 143) (v:=?_) rfl rfl (by kernel_rfl) (by kernel_rfl) (by kernel_rfl) (fun _ _ _ h=>h) (Or.inl ⟨by rfl,?_⟩) (by assumption) ?_
  rotate_left
  ·intro w' hSw
   go_simp
   try with_reducible rfl
  simp only[Act.put,List.setIfInBounds_toArray,List.set_cons_zero,List.set_cons_succ]
  refine z0n 33 (some 144) (v:=?_) rfl rfl (by kernel_rfl) (by kernel_rfl) (by kernel_rfl) (fun _ _ _ h=>h) (Or.inl ⟨by rfl,?_⟩) (by assumption) ?_
  rotate_left
  ·intro w' hSw
   go_simp
   try with_reducible rfl
  simp only[Act.put,List.setIfInBounds_toArray,List.set_cons_zero,List.set_cons_succ]
  refine z0n 34 (some 145) (v:=?_) rfl rfl (by kernel_rfl) (by kernel_rfl) (by kernel_rfl) (fun _ _ _ h=>h) (Or.inl ⟨by rfl,?_⟩) (by assumption) ?_
  rotate_left
  ·intro w' hSw
   go_simp
   try with_reducible rfl
  simp only[Act.put,List.setIfInBounds_toArray,List.set_cons_zero,List.set_cons_succ]
  refine z0n 35 (some 146) (v:=.int .u32 8) rfl rfl (by kernel_rfl) (by kernel_rfl) (by kernel_rfl) (fun _ _ _ h=>h) (Or.inl ⟨by rfl,fun w' hSw=>run_reg_is rfl 38 rfl hSw.1 (by decide) (by decide) R1.out.epc⟩) (by assumption) ?_
  simp only[Act.put,List.setIfInBounds_toArray,List.set_cons_zero,List.set_cons_succ]
  refine z0n 36 (some 147) (v:=?_) rfl rfl (by kernel_rfl) (by kernel_rfl) (by kernel_rfl) (fun _ _ _ h=>h) (Or.inl ⟨by rfl,?_⟩) (by assumption) ?_
  rotate_left
  ·intro w' hSw
   go_simp
   try with_reducible rfl
  simp only[Act.put,List.setIfInBounds_toArray,List.set_cons_zero,List.set_cons_succ]
  refine z0n 37 (some 148) (v:=?_) rfl rfl (by kernel_rfl) (by kernel_rfl) (by kernel_rfl) (fun _ _ _ h=>h) (Or.inl ⟨by rfl,?_⟩) (by assumption) ?_
  rotate_left
  ·intro w' hSw
   go_simp
   try with_reducible rfl
  simp only[Act.put,List.setIfInBounds_toArray,List.set_cons_zero,List.set_cons_succ]
  refine z0n 38 (some 149) (v:=?_) rfl rfl (by kernel_rfl) (by kernel_rfl) (by kernel_rfl) (fun _ _ _ h=>h) (Or.inl ⟨by rfl,?_⟩) (by assumption) ?_
  rotate_left
  ·intro w' hSw
   go_simp
   try with_reducible rfl
  simp only[Act.put,List.setIfInBounds_toArray,List.set_cons_zero,List.set_cons_succ]
  refine z0n 39 (some 150) (v:=?_) rfl rfl (by kernel_rfl) (by kernel_rfl) (by kernel_rfl) (fun _ _ _ h=>h) (Or.inl ⟨by rfl,?_⟩) (by assumption) ?_
  rotate_left
  ·intro w' hSw
   go_simp
   try with_reducible rfl
  simp only[Act.put,List.setIfInBounds_toArray,List.set_cons_zero,List.set_cons_succ]
  have ct:=fun V (hV:Below w13.heap.size w13 V)=>HK.out.time (O13.out.below HK.out hV).imp
  rw[HTT.out] at ct
  refine z5q 40 (some 151) 17 #[.pointer (some ⟨p,0,none⟩)] rfl rfl (by rfl) (by kernel_rfl) (by kernel_rfl) (Calls.mono (ct _ hHeld.2.2.2) ?_)
  rintro e w14 ⟨rfl,b14⟩
  have hH2:=hHeld
  clear hHeld
  refine⟨_,rfl,⟨z0f hH2.1 b14,z0f hH2.2.1 b14,z0f hH2.2.2.1 b14,z0e hH2.2.2.2 b14⟩,fun hHeld=>?_⟩
  simp only[Act.put,List.setIfInBounds_toArray,List.set_cons_zero,List.set_cons_succ]
  refine z0n 41 (some 152) (v:=?_) rfl rfl (by kernel_rfl) (by kernel_rfl) (by kernel_rfl) (fun _ _ _ h=>h) (Or.inl ⟨by rfl,?_⟩) (by assumption) ?_
  rotate_left
  ·intro w' hSw
   go_simp
   try with_reducible rfl
  simp only[Act.put,List.setIfInBounds_toArray,List.set_cons_zero,List.set_cons_succ]
  refine z0n 42 (some 153) (v:=?_) rfl rfl (by kernel_rfl) (by kernel_rfl) (by kernel_rfl) (fun _ _ _ h=>h) (Or.inl ⟨by rfl,?_⟩) (by assumption) ?_
  rotate_left
  ·intro w' hSw
   go_simp
   try with_reducible rfl
  simp only[Act.put,List.setIfInBounds_toArray,List.set_cons_zero,List.set_cons_succ]
  refine wpAnyH_done (by kernel_rfl) ?_ _
  refine NoPanic.normal ?_
  have B14:Hid _:=hHeld.2.2.2
  have I14:Hid _:=z0f I13.out B14.out
  have O14:Hid _:=O13.out.below HK.out B14.out
  clear hHeld B14 I13 O13 S13h R13 V13
  go_wp2_with fail
  go_loopw [19] (fun i wr=>∃ j:Nat,j≤6∧i=.int .i64 j∧Hid (Below w14.heap.size w14 wr)) (fun i _=>6-(intOf i).toNat)
  case atStart=>exact⟨0,Nat.zero_le _,rfl,Below.refl _ _⟩
  case round=>
   obtain⟨j,hj,rfl,hbr⟩:=hrel
   have O15:Hid _:=O14.out.below HK.out hbr.out
   have I15:Hid _:=z0f I14.out hbr.out
   by_cases hlt:j<6
   ·have v1:4*(j:Int)%4294967296=4*(j:Int):=by omega
    have v2:wrap64 (4*(j:Int))=4*(j:Int):=z0y (by omega) (by omega)
    have j0:(0:Int)≤(j:Int):=by omega
    have j1:(j:Int)<6:=by omega
    have cw:=O15.out.word HK.out j hlt (by decide) (4*(j:Int)) rfl
    have HY:Hid ((wordsC [1,2,W,4,5,6])[j]?=some (.int .u32 (z0p [1,2,W,4,5,6] j))):=wordsC_at _ j hlt
    have CW2:Hid _:=cw
    clear cw
    generalize z0p [1,2,W,4,5,6] j=y at *
    go_wp2_with fail
    refine Calls.mono CW2.out ?_
    rintro e w16 ⟨rfl,b16⟩
    have I16:=z0f I15.out b16
    have B16:Hid _:=z0e hbr.out b16
    clear b16 I15 O15 CW2 hbr
    go_wp2_with (first | (refine z0w (by rfl) 24 (.tmp 168) rfl w.heap.size 20 rfl #[.string S,.int .i64 d,.int .i64 a,.int .i64 b,.int .i32 m] _ (HI.out _ _ _ I16) HFI.out rfl infoIns ?_))
    refine (CW.out _).mono ?_
    rintro e w17 ⟨rfl,b17⟩
    have B17:Hid _:=z0e B16.out b17
    have B18:Hid (Below w14.heap.size w14 (w17.alloc (.cells #[.int .u32 1,.int .u32 2,.int .u32 W,.int .u32 4,.int .u32 5,.int .u32 6] 31))):=B17.out.alloc B17.out.size _
    clear b17 I16 B16
    go_wp2_with (first | (go_at_call 13;refine (zErr6 _ _).mono ?_;rintro e wq ⟨rfl,hwq⟩;rw[hwq];clear hwq wq) | (refine z8k (v:=.int .u32 y) rfl rfl rfl (show _=some (.cells (wordsC [1,2,W,4,5,6]) 31) from z0g w17 _) HY.out ?_))
    exact⟨⟨j+1,hlt,by go_num,B18.out⟩,by simp[intOf];omega⟩
   ·have hj6:j=6:=by omega
    subst hj6
    go_wp2_with fail
    refine Calls.mono (kawake6 HK.out _) ?_
    rintro e w16 ⟨rfl,b16⟩
    have O16:Hid _:=O15.out.below HK.out b16
    go_wp2
    go_ret
    exact⟨rfl,O16.out.bel⟩
theorem coreFaults {Is:z6d} (K:CoreK Is) (which x:Int) (user:Bool) (hwh:0≤which∧which≤255) (hx:U32 x) (w:World) :
  Calls Tryz.prog 7 #[.int .u8 which,.int .u32 x,.bool user] w fun e w'=>e=.returned (.bool true)∧Below w.heap.size w w':=by
 have th:which.tmod 10=which%10:=Int.tmod_eq_emod_of_nonneg hwh.1
 obtain⟨k,hk⟩:=Int.eq_ofNat_of_zero_le (show 0≤which%10 by omega)
 by_cases h4:k=4
 ·subst h4
  cases user
  ·exact faults4m K which x _ _ hwh hx (th.trans hk) rfl rfl w
  ·exact faults4u K which x _ _ hwh hx (th.trans hk) rfl rfl w
 ·cases user
  ·exact faultskm K which x _ _ k (by omega) h4 hwh hx (th.trans hk) rfl rfl w
  ·exact faultsku K which x _ _ k (by omega) h4 hwh hx (th.trans hk) rfl rfl w
end Go.Proofs.YtilcoimelnpkeaaGreatDoor
