/-
  Contracts of functions that the statement reaches, and what they are made of, callees first.
-/
import Derived.Deep.RegionLaw
import Derived.Test.YtilcoimelnpkeaaGreatDoorPza
import Derived.Test.YtilcoimelnpkeaaGreatDoorPzb
import Derived.Test.YtilcoimelnpkeaaGreatDoorPzc
import Derived.Test.YtilcoimelnpkeaaGreatDoorPzd
set_option maxRecDepth 100000
set_option maxHeartbeats 8000000
namespace Go.Proofs.YtilcoimelnpkeaaGreatDoor
open Go.RowKit
structure CS where
 m:Value
 f:Nat→Int
 u:Bool
 t:Int
 set:Bool
 cmp:Int
 la:Value
 came:Int
 lp:Int
 lat:Int
 lt:Int
 ev:Value
 task:Int
 kind:Int
 stop:Bool
def dueV (s:CS):Bool:=s.set&&decide (s.cmp≤s.t)
def z1j (s:CS) (c v:Int):CS:={ s with f:=z5i s.f s.u c v,u:=false,t:=s.t+4 }
def z2k (s:CS) (pc k:Int):CS:={ s with f:=set1 s.f 32 pc,t:=s.t+k }
def gw (f:Nat→Int) (i:Nat):Int:=f (41+i)
def z5m (s:CS) (p n how:Int):Bool:=!s.u||z2m (ofV (gw s.f)) p n how
def z3m (s:CS) (l:List Int) (rd:Nat) (p n:Int) (sg:Bool):CS:=
 if askV l.length p n=4 then z1j { s with lat:=p } 4 p
 else if askV l.length p n≠0∨z5m s p n 0=false then z1j { s with lat:=p } 5 p
 else z2k { s with lat:=p,f:=set1 s.f rd (z1l l p n sg) } ((s.f 32+4)%4294967296) 2
theorem z8q {ws:Nat→Int} (h:∀ i,U32 (ws i)):∀ r∈ofV ws,RgU r:=by
 intro r hr
 unfold ofV at hr
 obtain⟨i,_,rfl⟩:=List.mem_map.1 hr
 have h1:=h (2*i)
 have h2:=h (2*i+1)
 unfold U32 at h1 h2
 refine⟨⟨?_,?_⟩,⟨?_,?_⟩⟩ <;> simp only[z7c] <;> omega
def onS (s:CS):CS:=z2k s ((s.f 32+4)%4294967296) 2
theorem z2u {l:List Int} {i:Nat} {x:Int} (h:i<l.length):z0p (l.set i x) i=x:=by
 unfold z0p
 rw[List.getD_eq_getElem?_getD,List.getElem?_set_self h]
 rfl
theorem z2q {l:List Int} {i j:Nat} {x:Int} (h:j≠i):z0p (l.set j x) i=z0p l i:=by
 unfold z0p
 rw[List.getD_eq_getElem?_getD,List.getD_eq_getElem?_getD,List.getElem?_set_ne h]
structure Ev where
 task:Int
 kind:Int
 n:Int
def z5p (e:Ev):List Value:=[.int .i64 e.task,.int .i64 e.kind,.int .u32 e.n]
def z5d (l:List Ev):List Value:=l.flatMap z5p
theorem evrow_append (l m:List Ev):z5d (l++m)=z5d l++z5d m:=by unfold z5d;rw[List.flatMap_append]
theorem infoE:(Tryz.prog.info? 49).map (fun i=>(i.zero,i.size,i.bytes))=some (some (.agg #[.int .i64 0,.int .i64 0,.int .u32 0]),3,24):=by kernel_rfl
theorem z8x {P:Program} {o:Oper} {a:Act} {w:World} {C:World→Prop} (ty:TypeId) (x:Operand) (ho:o.op=.load ty x) (b k:Nat) (hx:a.eval x=.pointer (some ⟨b,k,none⟩)) (cs:Array Value) (d:TypeDesc) (hc:w.rangeAt b k cs.toList)
  (hu:P.underlying ty=some d) (hd:d.isRow=true) (hi:(P.info? ty).map (·.size)=some cs.size):o.quietAt P a C w (.agg cs):=by
 refine z0d ?_
 unfold execOp
 have:=run_loadVar_mid (P:=P) w b k ty cs.toList d hc hu hd (by rw[Array.length_toList];exact hi)
 rw[Array.toArray_toList] at this
 simp only[ho,hx,Instr.loadAt,Instr.sureAddr,Sem.run_bind,Sem.run_pure,Result.andThen_ok,this]
def oldV (s:CS) (n:Int):Int:=z4e s.f n s.t (dueV s)
def csrX (k:Nat) (old a:Int):Int:=if k=0 then a else if k=1 then bits .or .u32 old a else bits .andNot .u32 old a
def csrS (s:CS) (k:Nat) (rd:Nat) (r1 n a wd:Int):CS:=
 if z2b n≠0 then z1j s 2 wd
 else if k=0∨r1≠0 then (if z2y n≠0 then z1j s 2 wd else z2k { s with f:=set1 (z2o s.f n (csrX k (oldV s n) a)) rd (oldV s n) } ((z2o s.f n (csrX k (oldV s n) a) 32+4)%4294967296) 1)
 else z2k { s with f:=set1 s.f rd (oldV s n) } ((s.f 32+4)%4294967296) 1
def z6q:List (List UInt8 × List UInt8 × Int × Bool):=
  [([97,100,100],[97,100,100],1,false),
   ([115,117,98],[115,117,98],1,false),
   ([115,108,108],[115,108,108],1,false),
   ([115,108,116],[115,108,116],1,false),
   ([115,108,116,117],[115,108,116,117],1,false),
   ([120,111,114],[120,111,114],1,false),
   ([115,114,108],[115,114,108],1,false),
   ([115,114,97],[115,114,97],1,false),
   ([111,114],[111,114],1,false),
   ([97,110,100],[97,110,100],1,false),
   ([109,117,108],[109,117,108],3,false),
   ([109,117,108,104],[109,117,108,104],3,false),
   ([109,117,108,104,115,117],[109,117,108,104,115,117],3,false),
   ([109,117,108,104,117],[109,117,108,104,117],3,false),
   ([100,105,118],[100,105,118],20,false),
   ([100,105,118,117],[100,105,118,117],20,false),
   ([114,101,109],[114,101,109],20,false),
   ([114,101,109,117],[114,101,109,117],20,false),
   ([97,100,100,105],[97,100,100],1,true),
   ([115,108,116,105],[115,108,116],1,true),
   ([115,108,116,105,117],[115,108,116,117],1,true),
   ([120,111,114,105],[120,111,114],1,true),
   ([111,114,105],[111,114],1,true),
   ([97,110,100,105],[97,110,100],1,true),
   ([115,108,108,105],[115,108,108],1,true),
   ([115,114,108,105],[115,114,108],1,true),
   ([115,114,97,105],[115,114,97],1,true)]
def opS (s:CS) (nm:List UInt8) (rd:Nat) (a b cost:Int):CS:=z2k { s with f:=set1 s.f rd (opN nm a b) } ((s.f 32+4)%4294967296) cost
def opC (s:CS) (i:MIns):CS:=match z6q.lookup i.op with
 | some (nm,cost,imm)=>opS s nm i.d.toNat (s.f i.a.toNat) (if imm then i.m%4294967296 else s.f i.b.toNat) cost
 | none=>s
abbrev St:=CS × List Int × List Ev
def z4z (s:CS) (l:List Int) (es:List Ev) (p n x:Int):St:=
 if p%n≠0 then (z1j { s with lat:=p } 6 p,l,es)
 else if s.u=false∧n=4∧p=1073741824 then (onS { s with lat:=1073741824,set:=true,cmp:=s.t+2+x },l,es)
 else if s.u=false∧n=4∧p=1073741828 then (onS { s with lat:=1073741828,task:=x },l,es)
 else if s.u=false∧n=4∧p=1073741832 then (onS { s with lat:=1073741832,kind:=x },l,es)
 else if s.u=false∧n=4∧p=1073741836 then (onS { s with lat:=1073741836 },l,es++[⟨s.task,s.kind,x⟩])
 else if s.u=false∧n=4∧p=1073741840 then (onS { s with lat:=1073741840,stop:=true },l,es)
 else if z5m s p n 1=false then (z1j { s with lat:=p } 7 p,l,es)
 else if askV l.length p n≠0 then (z1j { s with lat:=p } 7 p,l,es)
 else (onS { s with lat:=p },l.set (p/4).toNat (z3h (z0p l (p/4).toNat) p n x),es)
def z4a (s:CS) (is:Bool) (m:Int):CS:={ s with f:=set1 s.f 32 ((s.f 32+(if is then m else 4))%4294967296),t:=s.t+2 }
def retC (s:CS):CS:={ s with f:=retF s.f,u:=retU s.f,t:=s.t+4 }
def wfiC (s:CS):CS:=z2k (if s.set&&decide (s.t<s.cmp) then { s with t:=s.cmp } else s) ((s.f 32+4)%4294967296) 1
def setX (s:CS) (d x:Int):CS:={ s with f:=set1 s.f d.toNat x }
def insC (s:CS) (l:List Int) (es:List Ev) (i:MIns) (x:Int):St:=
 if i.op=[108,117,105] then (z2k (setX s i.d (i.m%4294967296*4096%4294967296)) ((s.f 32+4)%4294967296) 1,l,es)
 else if i.op=[97,117,105,112,99] then (z2k (setX s i.d ((i.m%4294967296*4096+s.f 32)%4294967296)) ((s.f 32+4)%4294967296) 1,l,es)
 else if i.op=[106,97,108] then (z2k (setX s i.d ((s.f 32+4)%4294967296)) ((s.f 32+i.m%4294967296)%4294967296) 2,l,es)
 else if i.op=[106,97,108,114] then (z2k (setX s i.d ((s.f 32+4)%4294967296)) ((s.f i.a.toNat+i.m%4294967296)%4294967296/2*2) 2,l,es)
 else if i.op=[98,101,113] then (z4a s (s.f i.a.toNat==s.f i.b.toNat) (i.m%4294967296),l,es)
 else if i.op=[98,110,101] then (z4a s (s.f i.a.toNat != s.f i.b.toNat) (i.m%4294967296),l,es)
 else if i.op=[98,108,116] then (z4a s (opN [115,108,116] (s.f i.a.toNat) (s.f i.b.toNat)==1) (i.m%4294967296),l,es)
 else if i.op=[98,103,101] then (z4a s (opN [115,108,116] (s.f i.a.toNat) (s.f i.b.toNat)==0) (i.m%4294967296),l,es)
 else if i.op=[98,108,116,117] then (z4a s (decide (s.f i.a.toNat<s.f i.b.toNat)) (i.m%4294967296),l,es)
 else if i.op=[98,103,101,117] then (z4a s (decide (s.f i.b.toNat≤s.f i.a.toNat)) (i.m%4294967296),l,es)
 else if i.op=[108,98] then (z3m s l i.d.toNat ((s.f i.a.toNat+i.m%4294967296)%4294967296) 1 true,l,es)
 else if i.op=[108,104] then (z3m s l i.d.toNat ((s.f i.a.toNat+i.m%4294967296)%4294967296) 2 true,l,es)
 else if i.op=[108,119] then (z3m s l i.d.toNat ((s.f i.a.toNat+i.m%4294967296)%4294967296) 4 true,l,es)
 else if i.op=[108,98,117] then (z3m s l i.d.toNat ((s.f i.a.toNat+i.m%4294967296)%4294967296) 1 false,l,es)
 else if i.op=[108,104,117] then (z3m s l i.d.toNat ((s.f i.a.toNat+i.m%4294967296)%4294967296) 2 false,l,es)
 else if i.op=[115,98] then z4z s l es ((s.f i.a.toNat+i.m%4294967296)%4294967296) 1 (s.f i.b.toNat)
 else if i.op=[115,104] then z4z s l es ((s.f i.a.toNat+i.m%4294967296)%4294967296) 2 (s.f i.b.toNat)
 else if i.op=[115,119] then z4z s l es ((s.f i.a.toNat+i.m%4294967296)%4294967296) 4 (s.f i.b.toNat)
 else if i.op=[99,115,114,114,119] then (csrS s 0 i.d.toNat i.a i.m (s.f i.a.toNat) x,l,es)
 else if i.op=[99,115,114,114,115] then (csrS s 1 i.d.toNat i.a i.m (s.f i.a.toNat) x,l,es)
 else if i.op=[99,115,114,114,99] then (csrS s 2 i.d.toNat i.a i.m (s.f i.a.toNat) x,l,es)
 else if i.op=[109,114,101,116] then (retC s,l,es)
 else if i.op=[119,102,105] then (wfiC s,l,es)
 else if i.op=[102,101,110,99,101] then (z2k s ((s.f 32+4)%4294967296) 1,l,es)
 else if i.op=[101,99,97,108,108] then (z1j s (if s.u then 8 else 11) 0,l,es)
 else if i.op=[101,98,114,101,97,107] then (z1j s 3 (s.f 32),l,es)
 else (opC s i,l,es)
def z7b (i:MIns):Bool:=(z0q i.op).k==67||i.op==[109,114,101,116]||i.op==[119,102,105]
def doC (s:CS) (l:List Int) (es:List Ev):St:=
 if s.f 32%4≠0 then (z1j s 0 (s.f 32),l,es)
 else if z5m s (s.f 32) 4 2=false then (z1j s 1 (s.f 32),l,es)
 else if askV l.length (s.f 32) 4≠0 then (z1j s 1 (s.f 32),l,es)
 else match getV (z1l l (s.f 32) 4 false) with
  | none=>(z1j s 2 (z1l l (s.f 32) 4 false),l,es)
  | some i=>if s.u&&z7b i then (z1j s 2 (z1l l (s.f 32) 4 false),l,es) else insC s l es i (z1l l (s.f 32) 4 false)
def z4f (s:CS) (late:List Int):Int:=if s.came<late.length then max 0 (late.getD s.came.toNat 0) else 0
def z5y (s:CS):Bool:=dueV s&&(s.f 35/128%2==1)&&(s.u||s.f 34/8%2==1)
def z2t (s:CS):CS:={ s with lp:=s.f 32,lat:=0,lt:=s.t }
def z3i (late:List Int) (s:CS) (l:List Int) (es:List Ev):St:=
 if s.stop then (s,l,es)
 else if z5y s then ({ z2t s with f:=z5i s.f s.u 2147483655 0,u:=false,came:=s.came+1,t:=s.t+4+z4f s late },l,es)
 else ({ (doC (z2t s) l es).1 with f:=set1 (doC (z2t s) l es).1.f 0 0 },(doC (z2t s) l es).2.1,(doC (z2t s) l es).2.2)
structure Fine (s:CS) (es:List Ev):Prop where
 f:∀ i,U32 (s.f i)
 t0:0≤s.t
 t1:s.t≤576460752303423488
 c0:0≤s.cmp
 c1:s.cmp≤576460752303423488+8589934592
 tk:U32 s.task
 kd:U32 s.kind
 en:es.length≤900000
theorem z2z {w w':World} {O:Nat→Prop} {B:Nat} {t:TypeId} {sz n:Nat} {v:Value} {l:List Value} (h:w.ownsRow B t sz v n l) (hc:Chg O w w') (ho:∀ k,v.ownBlock=some k→¬O k):w'.ownsRow B t sz v n l:=by
 obtain⟨h0,h1 | ⟨g,cap,cur,e1,e2,e3,e4,e5,e6,e7⟩⟩:=h
 ·exact⟨h0,Or.inl h1⟩
 ·exact⟨h0,Or.inr ⟨g,cap,cur,e1,e2,hc.kept e3 (ho g (by rw[e1];rfl)),e4,e5,e6,e7⟩⟩
theorem z3k {w:World} {B:Nat} {t:TypeId} {sz n:Nat} {v:Value} {l:List Value} (h:w.ownsRow B t sz v n l) (k:Nat) (hk:v.ownBlock=some k):B≤k∧k<w.heap.size:=by
 obtain⟨_,⟨e1,_⟩ | ⟨g,cap,cur,e1,hg,e3,_⟩⟩:=h
 ·rw[e1] at hk;cases hk
 ·rw[e1] at hk
  simp only[Value.ownBlock,Option.some.injEq] at hk
  subst hk
  exact⟨hg,(Array.getElem?_eq_some_iff.1 e3).1⟩
theorem insC_lui (s:CS) (l:List Int) (es:List Ev) (d a b:Nat) (m x:Int):insC s l es ⟨[108,117,105],d,a,b,m⟩ x=(z2k (setX s d (m%4294967296*4096%4294967296)) ((s.f 32+4)%4294967296) 1,l,es):=rfl
theorem insC_auipc (s:CS) (l:List Int) (es:List Ev) (d a b:Nat) (m x:Int):insC s l es ⟨[97,117,105,112,99],d,a,b,m⟩ x=(z2k (setX s d ((m%4294967296*4096+s.f 32)%4294967296)) ((s.f 32+4)%4294967296) 1,l,es):=rfl
theorem insC_jal (s:CS) (l:List Int) (es:List Ev) (d a b:Nat) (m x:Int):insC s l es ⟨[106,97,108],d,a,b,m⟩ x=(z2k (setX s d ((s.f 32+4)%4294967296)) ((s.f 32+m%4294967296)%4294967296) 2,l,es):=rfl
theorem insC_jalr (s:CS) (l:List Int) (es:List Ev) (d a b:Nat) (m x:Int):insC s l es ⟨[106,97,108,114],d,a,b,m⟩ x=(z2k (setX s d ((s.f 32+4)%4294967296)) ((s.f a+m%4294967296)%4294967296/2*2) 2,l,es):=rfl
theorem insC_beq (s:CS) (l:List Int) (es:List Ev) (d a b:Nat) (m x:Int):insC s l es ⟨[98,101,113],d,a,b,m⟩ x=(z4a s (s.f a==s.f b) (m%4294967296),l,es):=rfl
theorem insC_bne (s:CS) (l:List Int) (es:List Ev) (d a b:Nat) (m x:Int):insC s l es ⟨[98,110,101],d,a,b,m⟩ x=(z4a s (s.f a != s.f b) (m%4294967296),l,es):=rfl
theorem insC_blt (s:CS) (l:List Int) (es:List Ev) (d a b:Nat) (m x:Int):insC s l es ⟨[98,108,116],d,a,b,m⟩ x=(z4a s (opN [115,108,116] (s.f a) (s.f b)==1) (m%4294967296),l,es):=rfl
theorem insC_bge (s:CS) (l:List Int) (es:List Ev) (d a b:Nat) (m x:Int):insC s l es ⟨[98,103,101],d,a,b,m⟩ x=(z4a s (opN [115,108,116] (s.f a) (s.f b)==0) (m%4294967296),l,es):=rfl
theorem insC_bltu (s:CS) (l:List Int) (es:List Ev) (d a b:Nat) (m x:Int):insC s l es ⟨[98,108,116,117],d,a,b,m⟩ x=(z4a s (decide (s.f a<s.f b)) (m%4294967296),l,es):=rfl
theorem insC_bgeu (s:CS) (l:List Int) (es:List Ev) (d a b:Nat) (m x:Int):insC s l es ⟨[98,103,101,117],d,a,b,m⟩ x=(z4a s (decide (s.f b≤s.f a)) (m%4294967296),l,es):=rfl
theorem insC_lb (s:CS) (l:List Int) (es:List Ev) (d a b:Nat) (m x:Int):insC s l es ⟨[108,98],d,a,b,m⟩ x=(z3m s l d ((s.f a+m%4294967296)%4294967296) 1 true,l,es):=rfl
theorem insC_lh (s:CS) (l:List Int) (es:List Ev) (d a b:Nat) (m x:Int):insC s l es ⟨[108,104],d,a,b,m⟩ x=(z3m s l d ((s.f a+m%4294967296)%4294967296) 2 true,l,es):=rfl
theorem insC_lw (s:CS) (l:List Int) (es:List Ev) (d a b:Nat) (m x:Int):insC s l es ⟨[108,119],d,a,b,m⟩ x=(z3m s l d ((s.f a+m%4294967296)%4294967296) 4 true,l,es):=rfl
theorem insC_lbu (s:CS) (l:List Int) (es:List Ev) (d a b:Nat) (m x:Int):insC s l es ⟨[108,98,117],d,a,b,m⟩ x=(z3m s l d ((s.f a+m%4294967296)%4294967296) 1 false,l,es):=rfl
theorem insC_lhu (s:CS) (l:List Int) (es:List Ev) (d a b:Nat) (m x:Int):insC s l es ⟨[108,104,117],d,a,b,m⟩ x=(z3m s l d ((s.f a+m%4294967296)%4294967296) 2 false,l,es):=rfl
theorem insC_sb (s:CS) (l:List Int) (es:List Ev) (d a b:Nat) (m x:Int):insC s l es ⟨[115,98],d,a,b,m⟩ x=z4z s l es ((s.f a+m%4294967296)%4294967296) 1 (s.f b):=rfl
theorem insC_sh (s:CS) (l:List Int) (es:List Ev) (d a b:Nat) (m x:Int):insC s l es ⟨[115,104],d,a,b,m⟩ x=z4z s l es ((s.f a+m%4294967296)%4294967296) 2 (s.f b):=rfl
theorem insC_sw (s:CS) (l:List Int) (es:List Ev) (d a b:Nat) (m x:Int):insC s l es ⟨[115,119],d,a,b,m⟩ x=z4z s l es ((s.f a+m%4294967296)%4294967296) 4 (s.f b):=rfl
theorem insC_csrrw (s:CS) (l:List Int) (es:List Ev) (d a b:Nat) (m x:Int):insC s l es ⟨[99,115,114,114,119],d,a,b,m⟩ x=(csrS s 0 d a m (s.f a) x,l,es):=rfl
theorem insC_csrrs (s:CS) (l:List Int) (es:List Ev) (d a b:Nat) (m x:Int):insC s l es ⟨[99,115,114,114,115],d,a,b,m⟩ x=(csrS s 1 d a m (s.f a) x,l,es):=rfl
theorem insC_csrrc (s:CS) (l:List Int) (es:List Ev) (d a b:Nat) (m x:Int):insC s l es ⟨[99,115,114,114,99],d,a,b,m⟩ x=(csrS s 2 d a m (s.f a) x,l,es):=rfl
theorem insC_mret (s:CS) (l:List Int) (es:List Ev) (d a b:Nat) (m x:Int):insC s l es ⟨[109,114,101,116],d,a,b,m⟩ x=(retC s,l,es):=rfl
theorem insC_wfi (s:CS) (l:List Int) (es:List Ev) (d a b:Nat) (m x:Int):insC s l es ⟨[119,102,105],d,a,b,m⟩ x=(wfiC s,l,es):=rfl
theorem insC_fence (s:CS) (l:List Int) (es:List Ev) (d a b:Nat) (m x:Int):insC s l es ⟨[102,101,110,99,101],d,a,b,m⟩ x=(z2k s ((s.f 32+4)%4294967296) 1,l,es):=rfl
theorem insC_ecall (s:CS) (l:List Int) (es:List Ev) (d a b:Nat) (m x:Int):insC s l es ⟨[101,99,97,108,108],d,a,b,m⟩ x=(z1j s (if s.u then 8 else 11) 0,l,es):=rfl
theorem insC_ebreak (s:CS) (l:List Int) (es:List Ev) (d a b:Nat) (m x:Int):insC s l es ⟨[101,98,114,101,97,107],d,a,b,m⟩ x=(z1j s 3 (s.f 32),l,es):=rfl
end Go.Proofs.YtilcoimelnpkeaaGreatDoor
