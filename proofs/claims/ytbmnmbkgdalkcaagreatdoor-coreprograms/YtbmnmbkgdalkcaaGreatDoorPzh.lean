/-
  Contracts of functions that the statement reaches, and what they are made of, callees first.
-/
import Derived.Deep.AppendLies
import Derived.Test.YtbmnmbkgdalkcaaGreatDoorPzf
import Derived.Test.YtbmnmbkgdalkcaaGreatDoorPzg
import Derived.Test.YtbmnmbkgdalkcaaGreatDoorPzp
set_option maxRecDepth 100000
set_option maxHeartbeats 8000000
namespace Go.Proofs.YtbmnmbkgdalkcaaGreatDoor
open Go.RowKit
theorem forms_split:∀ q∈z3w,(z6q.lookup q.1).isSome=true∨q.1∈others:=by decide +kernel
theorem others_is {nm:List UInt8} (h:nm∈others):nm=[108,117,105]∨nm=[97,117,105,112,99]∨nm=[106,97,108]∨nm=[106,97,108,114]∨nm=[98,101,113]∨nm=[98,110,101]∨nm=[98,108,116]∨nm=[98,103,101]∨nm=[98,108,116,117]∨nm=[98,103,101,117]∨nm=[108,98]∨nm=[108,104]∨nm=[108,119]∨nm=[108,98,117]∨nm=[108,104,117]∨nm=[115,98]∨nm=[115,104]∨nm=[115,119]∨nm=[99,115,114,114,119]∨nm=[99,115,114,114,115]∨nm=[99,115,114,114,99]∨nm=[109,114,101,116]∨nm=[119,102,105]∨nm=[102,101,110,99,101]∨nm=[101,99,97,108,108]∨nm=[101,98,114,101,97,107]:=by
 simpa only [others,List.mem_cons,List.not_mem_nil,or_false] using h
theorem mdo_ins_false {w:World} {c bm cap B:Nat} {s:CS} {l:List Int} {es:List Ev} (h:z1q w c bm cap B s l es) (hF:Fine s es) (hu:s.u=false) (hp:s.f 32%4=0) (ha:askV l.length (s.f 32) 4=0)
  (nm:List UInt8) (d a b:Nat) (m x:Int) (hx:z1l l (s.f 32) 4 false=x) (hg:getV (z1l l (s.f 32) 4 false)=some ⟨nm,d,a,b,m⟩) (hld:d<32) (hla:a<32) (hlb:b<32) (hm:(z0q nm).k=67→0≤m∧m<4096) :
  Calls Tryz.prog 30 #[.pointer (some ⟨c,0,none⟩)] w fun e w'=>e=.returned (.tuple #[])∧Went w w' c bm cap B s (insC s l es ⟨nm,d,a,b,m⟩ x):=by
 rcases forms_split _ (z8s hg) with ho | ho
 ·exact mdo_o_false h hF hu hp ha nm d a b m x hx hg hld hla hlb ho
 ·rcases others_is ho with e | e | e | e | e | e | e | e | e | e | e | e | e | e | e | e | e | e | e | e | e | e | e | e | e | e
  ·exact z7s h hF hu hp ha nm d a b m x hx hg hld hla hlb (Or.inl e)
  ·exact z7s h hF hu hp ha nm d a b m x hx hg hld hla hlb (Or.inr (Or.inl e))
  ·exact z7s h hF hu hp ha nm d a b m x hx hg hld hla hlb (Or.inr (Or.inr (Or.inl e)))
  ·exact z7s h hF hu hp ha nm d a b m x hx hg hld hla hlb (Or.inr (Or.inr (Or.inr (e))))
  ·exact z5l h hF hu hp ha nm d a b m x hx hg hld hla hlb (Or.inl e)
  ·exact z5l h hF hu hp ha nm d a b m x hx hg hld hla hlb (Or.inr (Or.inl e))
  ·exact z5l h hF hu hp ha nm d a b m x hx hg hld hla hlb (Or.inr (Or.inr (Or.inl e)))
  ·exact z5l h hF hu hp ha nm d a b m x hx hg hld hla hlb (Or.inr (Or.inr (Or.inr (Or.inl e))))
  ·exact z5l h hF hu hp ha nm d a b m x hx hg hld hla hlb (Or.inr (Or.inr (Or.inr (Or.inr (Or.inl e)))))
  ·exact z5l h hF hu hp ha nm d a b m x hx hg hld hla hlb (Or.inr (Or.inr (Or.inr (Or.inr (Or.inr (e))))))
  ·exact z6s h hF hu hp ha nm d a b m x hx hg hld hla hlb (Or.inl e)
  ·exact z6s h hF hu hp ha nm d a b m x hx hg hld hla hlb (Or.inr (Or.inl e))
  ·exact z6s h hF hu hp ha nm d a b m x hx hg hld hla hlb (Or.inr (Or.inr (Or.inl e)))
  ·exact z6s h hF hu hp ha nm d a b m x hx hg hld hla hlb (Or.inr (Or.inr (Or.inr (Or.inl e))))
  ·exact z6s h hF hu hp ha nm d a b m x hx hg hld hla hlb (Or.inr (Or.inr (Or.inr (Or.inr (e)))))
  ·exact mdo_s_false h hF hu hp ha nm d a b m x hx hg hld hla hlb (Or.inl e)
  ·exact mdo_s_false h hF hu hp ha nm d a b m x hx hg hld hla hlb (Or.inr (Or.inl e))
  ·exact mdo_s_false h hF hu hp ha nm d a b m x hx hg hld hla hlb (Or.inr (Or.inr (e)))
  ·exact mdo_c_false h hF hu hp ha nm d a b m x hx hg hld hla hlb (hm (by rw[show nm=_ from e];rfl)).1 (hm (by rw[show nm=_ from e];rfl)).2 (Or.inl e)
  ·exact mdo_c_false h hF hu hp ha nm d a b m x hx hg hld hla hlb (hm (by rw[show nm=_ from e];rfl)).1 (hm (by rw[show nm=_ from e];rfl)).2 (Or.inr (Or.inl e))
  ·exact mdo_c_false h hF hu hp ha nm d a b m x hx hg hld hla hlb (hm (by rw[show nm=_ from e];rfl)).1 (hm (by rw[show nm=_ from e];rfl)).2 (Or.inr (Or.inr (e)))
  ·exact mdo_r_false h hF hu hp ha nm d a b m x hx hg hld hla hlb (e)
  ·exact mdo_w_false h hF hu hp ha nm d a b m x hx hg hld hla hlb (e)
  ·exact mdo_m_false h hF hu hp ha nm d a b m x hx hg hld hla hlb (Or.inl e)
  ·exact mdo_m_false h hF hu hp ha nm d a b m x hx hg hld hla hlb (Or.inr (Or.inl e))
  ·exact mdo_m_false h hF hu hp ha nm d a b m x hx hg hld hla hlb (Or.inr (Or.inr (e)))
theorem mdo_ins_true {w:World} {c bm cap B:Nat} {s:CS} {l:List Int} {es:List Ev} (h:z1q w c bm cap B s l es) (hF:Fine s es) (hu:s.u=true) (hp:s.f 32%4=0) (ha:askV l.length (s.f 32) 4=0)
  (nm:List UInt8) (d a b:Nat) (m x:Int) (hx:z1l l (s.f 32) 4 false=x) (hg:getV (z1l l (s.f 32) 4 false)=some ⟨nm,d,a,b,m⟩) (hld:d<32) (hla:a<32) (hlb:b<32) (_hm:(z0q nm).k=67→0≤m∧m<4096) (hal:z2m (ofV (gw s.f)) (s.f 32) 4 2=true) (hbar:z7b ⟨nm,d,a,b,m⟩=false) :
  Calls Tryz.prog 30 #[.pointer (some ⟨c,0,none⟩)] w fun e w'=>e=.returned (.tuple #[])∧Went w w' c bm cap B s (insC s l es ⟨nm,d,a,b,m⟩ x):=by
 have hk:¬(z0q nm).k=67:=fun e=>by
  have:z7b ⟨nm,d,a,b,m⟩=true:=by unfold z7b;simp[e]
  rw[this] at hbar;cases hbar
 have hmr:¬nm=[109,114,101,116]:=fun e=>by
  have:z7b ⟨nm,d,a,b,m⟩=true:=by unfold z7b;simp[e]
  rw[this] at hbar;cases hbar
 have hwf:¬nm=[119,102,105]:=fun e=>by
  have:z7b ⟨nm,d,a,b,m⟩=true:=by unfold z7b;simp[e]
  rw[this] at hbar;cases hbar
 rcases forms_split _ (z8s hg) with ho | ho
 ·exact mdo_o_true h hF hu hp ha nm d a b m x hx hg hld hla hlb hal hk hmr hwf ho
 ·rcases others_is ho with e | e | e | e | e | e | e | e | e | e | e | e | e | e | e | e | e | e | e | e | e | e | e | e | e | e
  ·exact z8z h hF hu hp ha nm d a b m x hx hg hld hla hlb hal hk hmr hwf (Or.inl e)
  ·exact z8z h hF hu hp ha nm d a b m x hx hg hld hla hlb hal hk hmr hwf (Or.inr (Or.inl e))
  ·exact z8z h hF hu hp ha nm d a b m x hx hg hld hla hlb hal hk hmr hwf (Or.inr (Or.inr (Or.inl e)))
  ·exact z8z h hF hu hp ha nm d a b m x hx hg hld hla hlb hal hk hmr hwf (Or.inr (Or.inr (Or.inr (e))))
  ·exact z6m h hF hu hp ha nm d a b m x hx hg hld hla hlb hal hk hmr hwf (Or.inl e)
  ·exact z6m h hF hu hp ha nm d a b m x hx hg hld hla hlb hal hk hmr hwf (Or.inr (Or.inl e))
  ·exact z6m h hF hu hp ha nm d a b m x hx hg hld hla hlb hal hk hmr hwf (Or.inr (Or.inr (Or.inl e)))
  ·exact z6m h hF hu hp ha nm d a b m x hx hg hld hla hlb hal hk hmr hwf (Or.inr (Or.inr (Or.inr (Or.inl e))))
  ·exact z6m h hF hu hp ha nm d a b m x hx hg hld hla hlb hal hk hmr hwf (Or.inr (Or.inr (Or.inr (Or.inr (Or.inl e)))))
  ·exact z6m h hF hu hp ha nm d a b m x hx hg hld hla hlb hal hk hmr hwf (Or.inr (Or.inr (Or.inr (Or.inr (Or.inr (e))))))
  ·exact z7k h hF hu hp ha nm d a b m x hx hg hld hla hlb hal hk hmr hwf (Or.inl e)
  ·exact z7k h hF hu hp ha nm d a b m x hx hg hld hla hlb hal hk hmr hwf (Or.inr (Or.inl e))
  ·exact z7k h hF hu hp ha nm d a b m x hx hg hld hla hlb hal hk hmr hwf (Or.inr (Or.inr (Or.inl e)))
  ·exact z7k h hF hu hp ha nm d a b m x hx hg hld hla hlb hal hk hmr hwf (Or.inr (Or.inr (Or.inr (Or.inl e))))
  ·exact z7k h hF hu hp ha nm d a b m x hx hg hld hla hlb hal hk hmr hwf (Or.inr (Or.inr (Or.inr (Or.inr (e)))))
  ·exact mdo_s_true h hF hu hp ha nm d a b m x hx hg hld hla hlb hal hk hmr hwf (Or.inl e)
  ·exact mdo_s_true h hF hu hp ha nm d a b m x hx hg hld hla hlb hal hk hmr hwf (Or.inr (Or.inl e))
  ·exact mdo_s_true h hF hu hp ha nm d a b m x hx hg hld hla hlb hal hk hmr hwf (Or.inr (Or.inr (e)))
  ·exact absurd (by rw[show nm=_ from e];rfl) hk
  ·exact absurd (by rw[show nm=_ from e];rfl) hk
  ·exact absurd (by rw[show nm=_ from e];rfl) hk
  ·exact absurd e hmr
  ·exact absurd e hwf
  ·exact mdo_m_true h hF hu hp ha nm d a b m x hx hg hld hla hlb hal hk hmr hwf (Or.inl e)
  ·exact mdo_m_true h hF hu hp ha nm d a b m x hx hg hld hla hlb hal hk hmr hwf (Or.inr (Or.inl e))
  ·exact mdo_m_true h hF hu hp ha nm d a b m x hx hg hld hla hlb hal hk hmr hwf (Or.inr (Or.inr (e)))
theorem mdo {w:World} {c bm cap B:Nat} {s:CS} {l:List Int} {es:List Ev} (h:z1q w c bm cap B s l es) (hF:Fine s es) :
  Calls Tryz.prog 30 #[.pointer (some ⟨c,0,none⟩)] w fun e w'=>e=.returned (.tuple #[])∧Went w w' c bm cap B s (doC s l es):=by
 unfold doC
 by_cases hp0:¬s.f 32%4=0
 ·rw[if_pos hp0]
  exact mdo_odd h hF hp0
 have hp:s.f 32%4=0:=Classical.not_not.mp hp0
 rw[if_neg hp0]
 have hask:askV l.length (s.f 32) 4=0∨askV l.length (s.f 32) 4=2:=by
  unfold askV
  rw[if_neg (by decide),if_neg (not_not_intro hp)]
  split
  ·exact Or.inr rfl
  ·exact Or.inl rfl
 have fields:∀ i,getV (z1l l (s.f 32) 4 false)=some i→∃ nm,∃ d a b:Nat,∃ m,i=⟨nm,d,a,b,m⟩∧d<32∧a<32∧b<32∧((z0q nm).k=67→0≤m∧m<4096):=fun i hi=>by
  have hq:=get_fields (z2l l (s.f 32) 4) hi
  obtain⟨nm,d,a,b,m⟩:=i
  simp only at hq
  obtain⟨⟨d0,d1⟩,⟨a0,a1⟩,⟨b0,b1⟩,hm⟩:=hq
  obtain⟨d,rfl⟩:=Int.eq_ofNat_of_zero_le d0
  obtain⟨a,rfl⟩:=Int.eq_ofNat_of_zero_le a0
  obtain⟨b,rfl⟩:=Int.eq_ofNat_of_zero_le b0
  exact⟨nm,d,a,b,m,rfl,by omega,by omega,by omega,hm⟩
 rcases (show s.u=false∨s.u=true by cases s.u <;> simp) with hu | hu
 ·have hl:z5m s (s.f 32) 4 2=true:=by unfold z5m;rw[hu];rfl
  rw[if_neg (by rw[hl];decide)]
  rcases hask with ha | ha
  ·rw[if_neg (by rw[ha];decide)]
   cases hg:getV (z1l l (s.f 32) 4 false) with
   | none=>exact mdo_none_false h hF hu hp ha _ rfl hg
   | some i=>
    obtain⟨nm,d,a,b,m,rfl,h1,h2,h3,h4⟩:=fields i hg
    show Calls _ _ _ _ fun e w'=>e=_∧Went w w' c bm cap B s (if (s.u&&z7b ⟨nm,d,a,b,m⟩)=true then _ else _)
    rw[if_neg (by rw[hu];simp)]
    exact mdo_ins_false h hF hu hp ha nm d a b m _ rfl hg h1 h2 h3 h4
  ·rw[if_pos (by rw[ha];decide)]
   exact mdo_out_false h hF hu hp ha
 ·have hl:z5m s (s.f 32) 4 2=z2m (ofV (gw s.f)) (s.f 32) 4 2:=by unfold z5m;rw[hu];rfl
  rw[hl]
  rcases (show z2m (ofV (gw s.f)) (s.f 32) 4 2=false∨z2m (ofV (gw s.f)) (s.f 32) 4 2=true by cases z2m (ofV (gw s.f)) (s.f 32) 4 2 <;> simp) with hal | hal
  ·rw[if_pos hal]
   exact mdo_shut h hF hu hp hal
  rw[if_neg (by rw[hal];decide)]
  rcases hask with ha | ha
  ·rw[if_neg (by rw[ha];decide)]
   cases hg:getV (z1l l (s.f 32) 4 false) with
   | none=>exact mdo_none_true h hF hu hp hal ha _ rfl hg
   | some i=>
    obtain⟨nm,d,a,b,m,rfl,h1,h2,h3,h4⟩:=fields i hg
    show Calls _ _ _ _ fun e w'=>e=_∧Went w w' c bm cap B s (if (s.u&&z7b ⟨nm,d,a,b,m⟩)=true then _ else _)
    by_cases hb:z7b ⟨nm,d,a,b,m⟩=true
    ·rw[if_pos (by rw[hu,hb];rfl)]
     by_cases k1:(z0q nm).k=67
     ·exact mdo_bar_c h hF hu hp hal ha nm d a b m _ rfl hg h2 h3 h1 k1
     by_cases k2:nm=[109,114,101,116]
     ·exact mdo_bar_m h hF hu hp hal ha nm d a b m _ rfl hg h2 h3 h1 k1 k2
     by_cases k3:nm=[119,102,105]
     ·exact mdo_bar_w h hF hu hp hal ha nm d a b m _ rfl hg h2 h3 h1 k1 k2 k3
     ·exfalso
      unfold z7b at hb
      simp[k1,k2,k3] at hb
    ·rw[if_neg (by rw[hu,Bool.true_and];exact hb)]
     exact mdo_ins_true h hF hu hp ha nm d a b m _ rfl hg h1 h2 h3 h4 hal (by simpa using hb)
  ·rw[if_pos (by rw[ha];decide)]
   exact mdo_out_true h hF hu hp hal ha
structure LateAt (w:World) (c bm B:Nat) (v:Value) (late:List Int):Prop where
 is:∃ sa cap bl off,v=.slice sa late.length cap∧(0<late.length→sa=some ⟨bl,off,none⟩∧bl<B∧bl≠c∧bl≠bm∧bl<w.heap.size∧∀ i,i<late.length→w.cell? ⟨bl,off+i,none⟩=some (.int .i64 (late.getD i 0)))
theorem LateAt.on {w w':World} {c bm B:Nat} {v:Value} {late:List Int} {O:Nat→Prop} (h:LateAt w c bm B v late) (hc:Chg O w w') (ho:∀ k,O k→k=c∨k=bm∨B≤k):LateAt w' c bm B v late:=by
 obtain⟨sa,cap,bl,off,h1,h2⟩:=h.is
 refine⟨sa,cap,bl,off,h1,fun hl=>?_⟩
 obtain⟨q1,q2,q3,q4,q5,q6⟩:=h2 hl
 have hb:=hc.block bl q5 (fun e=>by have:=ho bl e;omega)
 exact⟨q1,q2,q3,q4,Nat.lt_of_lt_of_le q5 hc.size,fun i hi=>by rw[World.cell?_of_block hb];exact q6 i hi⟩
theorem cg_lp (s:CS) (x:Int) (j:Nat):z0l { s with lp:=x } j=updC (z0l s) 63 (.int .u32 x) j:=by
 unfold updC z0l
 by_cases h:j=63
 ·subst h;simp
 ·simp[h]
theorem cg_lt (s:CS) (x:Int) (j:Nat):z0l { s with lt:=x } j=updC (z0l s) 65 (.int .i64 x) j:=by
 unfold updC z0l
 by_cases h:j=65
 ·subst h;simp
 ·simp[h]
theorem leak_put {w:World} {c:Nat} {s:CS} (h:z0i w c s):z0i (((w.setCell ⟨c,63,none⟩ (.int .u32 (s.f 32))).setCell ⟨c,64,none⟩ (.int .u32 0)).setCell ⟨c,65,none⟩ (.int .i64 s.t)) c (z2t s):=
 ((h.put 63 _ (fun j _=>cg_lp s _ j)).put 64 _ (fun j _=>cg_lat { s with lp:=s.f 32 } 0 j)).put 65 _ (fun j _=>cg_lt { s with lp:=s.f 32,lat:=0 } s.t j)
theorem z1q.turn {w w' : World} {c bm cap B : Nat} {s s' : CS} {l : List Int} {es : List Ev} (h : z1q w c bm cap B s l es) (hc : z0i w' c s') (hg : Chg (· = c) w w') (hm : s'.m = s.m) (he : s'.ev = s.ev) : z1q w' c bm cap B s' l es :=
  ⟨hc,h.mem.on hg hm,by rw[he];exact z2z h.ev hg (fun k hk e=>by have:=(z3k h.ev k hk).1;have:=h.cB;omega),h.cB,h.bB,Nat.le_trans h.hB hg.size⟩
theorem went_x0 {w W w' : World} {c bm cap B : Nat} {s : CS} {r : St} (hg : Chg (· = c) w W) (h : Went W w' c bm cap B (z2t s) r) : Went w (w'.setCell ⟨c, 1, none⟩ (.int .u32 0)) c bm cap B s ({ r.1 with f := set1 r.1.f 0 0 }, r.2.1, r.2.2) := by
  obtain⟨⟨ev,h1,h2⟩,h3⟩:=h
  have g1 : Chg (· = c) w' (w'.setCell ⟨c, 1, none⟩ (.int .u32 0)) := (Chg.refl _ _).own _
  refine⟨⟨ev,?_,fun k hk=>(h2 k hk).elim Or.inl (fun e=>Or.inr (Nat.le_trans hg.size e))⟩,((hg.mono fun k _ e=>Or.inl e).trans h3).trans (g1.mono fun k _ e=>Or.inl e)⟩
  exact h1.turn (h1.core.putx 0 (by decide) 0) g1 rfl rfl
theorem mstep_stop {w:World} {c bm cap B:Nat} {s:CS} {l:List Int} {es:List Ev} (h:z1q w c bm cap B s l es) (late:List Int) (hs:s.stop=true) :
  Calls Tryz.prog 15 #[.pointer (some ⟨c,0,none⟩)] w fun e w'=>e=.returned (.bool false)∧Went w w' c bm cap B s (z3i late s l es):=by
 have HM:Hid _:=h
 have HS:Hid _:=hs
 have c69:w.cell? ⟨c,69,none⟩=some (.bool true):=by rw[h.core.cell 69 (by decide),← hs];rfl
 clear h hs
 go_enter Tryz.func15,Tryz.ntmps15
 go_wp2
 go_ret
 refine⟨rfl,?_⟩
 unfold z3i
 rw[if_pos HS.out]
 exact z0x HM.out HM.out.core (Chg.refl _ _) rfl rfl
theorem mstep_do {w : World} {c bm cap B : Nat} {s : CS} {l : List Int} {es : List Ev} (h : z1q w c bm cap B s l es) (hF : Fine s es) (late : List Int) (hs : s.stop = false) (ht : z5y s = false) :
    Calls Tryz.prog 15 #[.pointer (some ⟨c,0,none⟩)] w fun e w'=>e=.returned (.bool true)∧Went w w' c bm cap B s (z3i late s l es):=by
  have HM:Hid _:=h
  have HF:Hid _:=hF
  have HS:Hid _:=hs
  have HT:Hid _:=ht
  have c69:w.cell? ⟨c,69,none⟩=some (.bool false):=by rw[h.core.cell 69 (by decide),← hs];rfl
  have c33:w.cell? ⟨c,33,none⟩=some (.int .u32 (s.f 32)):=h.core.cell 33 (by decide)
  have c58:w.cell? ⟨c,58,none⟩=some (.int .i64 s.t):=h.core.cell 58 (by decide)
  have c63:w.cell? ⟨c,63,none⟩=some (.int .u32 s.lp):=h.core.cell 63 (by decide)
  have c64:w.cell? ⟨c,64,none⟩=some (.int .u32 s.lat):=h.core.cell 64 (by decide)
  have c65:w.cell? ⟨c,65,none⟩=some (.int .i64 s.lt):=h.core.cell 65 (by decide)
  have f63:=h.core.free 63
  have f64:=h.core.free 64
  have f65:=h.core.free 65
  have H1:Hid _:=(leak_put h.core).drew
  have G1 : Hid (Chg (· = c) w (((w.setCell ⟨c, 63, none⟩ (.int .u32 (s.f 32))).setCell ⟨c, 64, none⟩ (.int .u32 0)).setCell ⟨c, 65, none⟩ (.int .i64 s.t)).drew) := ((((Chg.refl (· = c) w).own _).own _).own _).drew
  clear h hF hs ht
  generalize hpc:s.f 32=pc at *
  generalize hst:s.t=st at *
  go_enter Tryz.func15,Tryz.ntmps15
  go_wp2_with fail
  go_region
  have HPC:Hid _:=hpc
  have HST:Hid _:=hst
  clear hpc hst
  generalize (((w.setCell ⟨c,63,none⟩ (.int .u32 pc)).setCell ⟨c,64,none⟩ (.int .u32 0)).setCell ⟨c,65,none⟩ (.int .i64 st)).drew=W1 at *
  clear c69 c33 c58 c63 c64 c65 f63 f64 f65
  go_wp2_with fail
  refine (mdue H1.out).mono ?_
  rintro e w2 ⟨rfl,b2⟩
  have H2:Hid _:=H1.out.below b2
  have G2:Hid _:=G1.out.step b2
  have c34:w2.cell? ⟨c,34,none⟩=some (.bool s.u):=H2.out.cell 34 (by decide)
  have c35:w2.cell? ⟨c,35,none⟩=some (.int .u32 (s.f 34)):=H2.out.cell 35 (by decide)
  have c36:w2.cell? ⟨c,36,none⟩=some (.int .u32 (s.f 35)):=H2.out.cell 36 (by decide)
  have ui:=HF.out.f 35
  have us:=HF.out.f 34
  have FL:Hid (Fine (z2t s) es):=⟨HF.out.f,HF.out.t0,HF.out.t1,HF.out.c0,HF.out.c1,HF.out.tk,HF.out.kd,HF.out.en⟩
  have HD:Hid _:=fun W (hW:z1q W c bm cap B (z2t s) l es)=>mdo hW FL.out
  have HV:Hid (z3i late s l es=({ (doC (z2t s) l es).1 with f:=set1 (doC (z2t s) l es).1.f 0 0 },(doC (z2t s) l es).2.1,(doC (z2t s) l es).2.2)):=by
    show _=_
    unfold z3i
    rw[if_neg (by rw[HS.out];decide),if_neg (by rw[HT.out];decide)]
  have hd:dueV (z2t s)=dueV s:=rfl
  rw[hd]
  clear hd
  have ht:=HT.out
  unfold z5y at ht
  have t1:(s.f 35).tdiv 128=s.f 35/128:=Int.tdiv_eq_ediv_of_nonneg ui.1
  have t2:(s.f 35/128).tmod 2=s.f 35/128%2:=Int.tmod_eq_emod_of_nonneg (by have:=ui.1;omega)
  have t3:(s.f 34).tdiv 8=s.f 34/8:=Int.tdiv_eq_ediv_of_nonneg us.1
  have t4:(s.f 34/8).tmod 2=s.f 34/8%2:=Int.tmod_eq_emod_of_nonneg (by have:=us.1;omega)
  obtain⟨ui0,ui1⟩:=ui
  obtain⟨us0,us1⟩:=us
  generalize s.f 35=ie at *
  generalize s.f 34=su at *
  clear b2 H1 G1 HT
  have K:dueV s=false∨(dueV s=true∧(ie/128%2==1)=false)∨(dueV s=true∧(ie/128%2==1)=true∧s.u=false∧(su/8%2==1)=false):=by
    revert ht
    cases dueV s <;> cases (ie/128%2==1) <;> cases s.u <;> cases (su/8%2==1) <;> simp
  clear ht
  have HUU:Hid (s.u=s.u):=rfl
  generalize dueV s=du at *
  generalize s.u=uu at *
  rcases K with rfl | ⟨rfl,k1⟩ | ⟨rfl,k1,rfl,k2⟩
  all_goals
    go_wp2_with fail
    refine (HD.out _ (HM.out.turn H2.out G2.out rfl rfl)).mono ?_
    rintro e w7 ⟨rfl,h7⟩
    have W8:Hid _:=went_x0 G2.out h7
    obtain⟨⟨ev,m7,_⟩,_⟩:=h7
    have x0:=m7.core.x 0 (by decide)
    have y0:=m7.core.free 1
    clear m7
    go_wp2
    go_ret
    refine⟨rfl,?_⟩
    rw[HV.out]
    exact W8.out
theorem mstep_timer {w : World} {c bm cap B : Nat} {s : CS} {l : List Int} {es : List Ev} (h : z1q w c bm cap B s l es) (hF : Fine s es) (late : List Int) (hla : LateAt w c bm B s.la late) (hc0 : 0 ≤ s.came) (hc1 : s.came ≤ 1000000000) (hmo : z4f s late ≤ 1099511627776) (hs : s.stop = false) (ht : z5y s = true) :
    Calls Tryz.prog 15 #[.pointer (some ⟨c,0,none⟩)] w fun e w'=>e=.returned (.bool true)∧Went w w' c bm cap B s (z3i late s l es):=by
  have HM:Hid _:=h
  have HF:Hid _:=hF
  have HS:Hid _:=hs
  have HT:Hid _:=ht
  have HLA:Hid _:=hla
  have HMO:Hid _:=hmo
  have HC0:Hid _:=hc0
  have HC1:Hid _:=hc1
  clear hla hmo hc0 hc1
  have c69:w.cell? ⟨c,69,none⟩=some (.bool false):=by rw[h.core.cell 69 (by decide),← hs];rfl
  have c33:w.cell? ⟨c,33,none⟩=some (.int .u32 (s.f 32)):=h.core.cell 33 (by decide)
  have c58:w.cell? ⟨c,58,none⟩=some (.int .i64 s.t):=h.core.cell 58 (by decide)
  have c63:w.cell? ⟨c,63,none⟩=some (.int .u32 s.lp):=h.core.cell 63 (by decide)
  have c64:w.cell? ⟨c,64,none⟩=some (.int .u32 s.lat):=h.core.cell 64 (by decide)
  have c65:w.cell? ⟨c,65,none⟩=some (.int .i64 s.lt):=h.core.cell 65 (by decide)
  have f63:=h.core.free 63
  have f64:=h.core.free 64
  have f65:=h.core.free 65
  have H1:Hid _:=(leak_put h.core).drew
  have G1 : Hid (Chg (· = c) w (((w.setCell ⟨c, 63, none⟩ (.int .u32 (s.f 32))).setCell ⟨c, 64, none⟩ (.int .u32 0)).setCell ⟨c, 65, none⟩ (.int .i64 s.t)).drew) := ((((Chg.refl (· = c) w).own _).own _).own _).drew
  clear h hF hs ht
  generalize hpc:s.f 32=pc at *
  generalize hst:s.t=st at *
  go_enter Tryz.func15,Tryz.ntmps15
  go_wp2_with fail
  go_region
  have HPC:Hid _:=hpc
  have HST:Hid _:=hst
  clear hpc hst
  generalize (((w.setCell ⟨c,63,none⟩ (.int .u32 pc)).setCell ⟨c,64,none⟩ (.int .u32 0)).setCell ⟨c,65,none⟩ (.int .i64 st)).drew=W1 at *
  clear c69 c33 c58 c63 c64 c65 f63 f64 f65
  go_wp2_with fail
  refine (mdue H1.out).mono ?_
  rintro e w2 ⟨rfl,b2⟩
  have H2:Hid _:=H1.out.below b2
  have G2:Hid _:=G1.out.step b2
  have c34:w2.cell? ⟨c,34,none⟩=some (.bool s.u):=H2.out.cell 34 (by decide)
  have c35:w2.cell? ⟨c,35,none⟩=some (.int .u32 (s.f 34)):=H2.out.cell 35 (by decide)
  have c36:w2.cell? ⟨c,36,none⟩=some (.int .u32 (s.f 35)):=H2.out.cell 36 (by decide)
  have ui:=HF.out.f 35
  have us:=HF.out.f 34
  have FL:Hid (Fine (z2t s) es):=⟨HF.out.f,HF.out.t0,HF.out.t1,HF.out.c0,HF.out.c1,HF.out.tk,HF.out.kd,HF.out.en⟩
  have HV:Hid (z3i late s l es=({ z2t s with f:=z5i s.f s.u 2147483655 0,u:=false,came:=s.came+1,t:=s.t+4+z4f s late },l,es)):=by
    show _=_
    unfold z3i
    rw[if_neg (by rw[HS.out];decide),if_pos HT.out]
  have hd:dueV (z2t s)=dueV s:=rfl
  rw[hd]
  clear hd
  have ht:=HT.out
  unfold z5y at ht
  have t1:(s.f 35).tdiv 128=s.f 35/128:=Int.tdiv_eq_ediv_of_nonneg ui.1
  have t2:(s.f 35/128).tmod 2=s.f 35/128%2:=Int.tmod_eq_emod_of_nonneg (by have:=ui.1;omega)
  have t3:(s.f 34).tdiv 8=s.f 34/8:=Int.tdiv_eq_ediv_of_nonneg us.1
  have t4:(s.f 34/8).tmod 2=s.f 34/8%2:=Int.tmod_eq_emod_of_nonneg (by have:=us.1;omega)
  obtain⟨ui0,ui1⟩:=ui
  obtain⟨us0,us1⟩:=us
  have CT:Hid _:=rTrap s.f s.u 2147483655 0 HF.out.f
  obtain⟨fs,hfs⟩:=z3f
  have HR:Hid _:=hfs
  clear hfs
  generalize z5i s.f s.u 2147483655 0=F at *
  generalize s.f 35=ie at *
  generalize s.f 34=su at *
  clear b2 H1 G1 HT FL
  obtain ⟨sa, ca, bl, off, hv, hl⟩ := (HLA.out.on (O := (· = c)) G2.out (fun k e => Or.inl e)).is
  have c61:w2.cell? ⟨c,61,none⟩=some (.slice sa late.length ca):=by rw[H2.out.cell 61 (by decide),← hv];rfl
  have c62:w2.cell? ⟨c,62,none⟩=some (.int .i64 s.came):=H2.out.cell 62 (by decide)
  have f62:=H2.out.free 62
  have HL:Hid _:=hl
  clear hv hl
  have K:dueV s=true∧(ie/128%2==1)=true∧(s.u=true∨(s.u=false∧(su/8%2==1)=true)):=by
    revert ht
    cases dueV s <;> cases (ie/128%2==1) <;> cases s.u <;> cases (su/8%2==1) <;> simp
  clear ht
  obtain⟨k1,k2,k3⟩:=K
  rw[k1]
  clear k1
  by_cases hcm:s.came<late.length
  · have hm:z4f s late=max 0 (late.getD s.came.toNat 0):=by unfold z4f;rw[if_pos hcm]
    rw[hm] at HV HMO
    obtain⟨q1,q2,q3,q4,q5,q6⟩:=HL.out (by have:=HC0.out;omega)
    subst q1
    obtain⟨cn,hcn⟩:=Int.eq_ofNat_of_zero_le HC0.out
    rw[hcn] at c62 hcm HV HMO
    have lc:=q6 cn (by omega)
    have i0:(0:Int)≤(cn:Int):=by omega
    have i1:(cn:Int)<(late.length:Int):=hcm
    have d1:decide ((cn:Int)<(late.length:Int))=true:=decide_eq_true hcm
    have e1:((cn:Int)).toNat=cn:=by omega
    rw[e1] at HV HMO
    have hmx:Hid ((if 0<late.getD cn 0 then late.getD cn 0 else 0)=max 0 (late.getD cn 0)):=by show _=_;split <;> omega
    rw[← hmx.out] at HV HMO
    clear q2 q3 q4 q5 q6 hm HL e1
    generalize late.getD cn 0=lv at *
    have hmp:Hid (0≤(if 0<lv then lv else 0)):=by show _≤_;split <;> omega
    have v1:wrap64 ((cn:Int)+1)=(cn:Int)+1:=z0y (by omega) (by have:=HC1.out;omega)
    have v0:wrap64 (st+4)=st+4:=by have h0:=HF.out.t0;have h1:=HF.out.t1;rw[HST.out] at h0 h1;exact z0y (by omega) (by omega)
    have v2:Hid (wrap64 (st+4+(if 0<lv then lv else 0))=st+4+(if 0<lv then lv else 0)):=by have h0:=HF.out.t0;have h1:=HF.out.t1;rw[HST.out] at h0 h1;have:=HMO.out;have:=hmp.out;exact z0y (by omega) (by omega)
    rw[HST.out] at HV
    generalize late.length=ln at *
    rcases k3 with k3 | ⟨k3,k4⟩
    all_goals
      rw[k3] at c34
      clear k3
      go_wp2_with fail
      go_quiet (fail)
      go_wp2_with fail
      go_region
      generalize (if 0<lv then lv else 0)=mv at *
      have H3:Hid (z0i (w2.drewN (nq+1)) c (z2t s)):=H2.out.below (z0u w2.heap.size w2 (nq+1))
      have G3 : Hid (Chg (· = c) w (w2.drewN (nq + 1))) := G2.out.step (z0u w2.heap.size w2 (nq + 1))
      generalize w2.drewN (nq+1)=W3 at *
      clear c34 c35 c36 c61 c62 f62 H2 G2 t1 t2 t3 t4 ui0 ui1 us0 us1
      have c62:W3.cell? ⟨c,62,none⟩=some (.int .i64 cn):=by rw[H3.out.cell 62 (by decide)];show some (Value.int .i64 s.came)=_;rw[hcn]
      have f62:=H3.out.free 62
      have H4:Hid (z0i (W3.setCell ⟨c,62,none⟩ (.int .i64 (cn+1))) c { z2t s with came:=cn+1 }):=H3.out.put 62 _ (fun j _=>cg_came (z2t s) _ j)
      have G4 : Hid (Chg (· = c) w (W3.setCell ⟨c, 62, none⟩ (.int .i64 (cn + 1)))) := G3.out.own _
      have RG:Hid ((W3.setCell ⟨c,62,none⟩ (.int .i64 (cn+1))).rangeAt c 1 (z0c s.f s.u).toList):=H4.out.regs
      clear H3 G3
      go_wp2_with (first | (refine z0w (by rfl) 32 (.tmp 81) rfl c 1 rfl (z0c s.f s.u) _ RG.out HR.out rfl (by rw[z0b];exact z0o) ?_))
      refine (CT.out _).mono ?_
      rintro e w5 ⟨rfl,b5⟩
      have H5:Hid _:=H4.out.below b5
      have G5:Hid _:=G4.out.step b5
      have TH:Hid _:=H5.out.there
      have H6:Hid (z0i (w5.setCells c 1 (z0c F false).toList) c { z2t s with came:=cn+1,f:=F,u:=false }):=H5.out.regsIn _ _
      have G6 : Hid (Chg (· = c) w (w5.setCells c 1 (z0c F false).toList)) := G5.out.owns _
      clear b5 H4 G4 H5 G5 RG c62 f62
      rename_i K1 hK1 K2 hK2
      refine hK2 _ _ ?_
      refine z3b ?_ (some 84) rfl (by rfl) ?_ ?_
      rotate_left
      · go_simp
        try with_reducible rfl
      simp only[Act.put,List.setIfInBounds_toArray,List.set_cons_zero,List.set_cons_succ]
      refine z3b ?_ (some 85) rfl (by rfl) ?_ ?_
      rotate_left
      · go_simp
        try with_reducible rfl
      simp only[Act.put,List.setIfInBounds_toArray,List.set_cons_zero,List.set_cons_succ]
      refine z1v rfl 32 (.tmp 85) (.tmp 83) rfl c 1 (z0c F false) rfl rfl (by rw[z0b];exact TH.out) (by rw[z0b];exact z0o) (z0s _ _) ?_
      intro W7 e7
      rw[← e7] at H6 G6
      clear e7 TH
      have c58:W7.cell? ⟨c,58,none⟩=some (.int .i64 st):=by rw[H6.out.cell 58 (by decide)];show some (Value.int .i64 s.t)=_;rw[HST.out]
      have f58:=H6.out.free 58
      have v3:=v2.out
      go_wp2
      go_ret
      refine⟨rfl,?_⟩
      rw[HV.out]
      exact z0x HM.out (H6.out.put 58 _ (fun j _=>cg_t { z2t s with came:=cn+1,f:=F,u:=false } _ j)) (G6.out.own _) rfl rfl
  · have hm:z4f s late=0:=by unfold z4f;rw[if_neg hcm]
    rw[hm] at HV HMO
    obtain⟨cn,hcn⟩:=Int.eq_ofNat_of_zero_le HC0.out
    rw[hcn] at c62 hcm HV
    have d1:decide ((cn:Int)<(late.length:Int))=false:=decide_eq_false hcm
    clear hm HL
    have v1:wrap64 ((cn:Int)+1)=(cn:Int)+1:=z0y (by omega) (by have:=HC1.out;omega)
    have v0:wrap64 (st+4)=st+4:=by have h0:=HF.out.t0;have h1:=HF.out.t1;rw[HST.out] at h0 h1;exact z0y (by omega) (by omega)
    have v2:Hid (wrap64 (st+4)=st+4):=v0
    rw[HST.out,Int.add_zero] at HV
    generalize late.length=ln at *
    rcases k3 with k3 | ⟨k3,k4⟩
    all_goals
      rw[k3] at c34
      clear k3
      go_wp2_with fail
      go_quiet (fail)
      have H3:Hid (z0i (w2.drewN nq) c (z2t s)):=H2.out.below (z0u w2.heap.size w2 nq)
      have G3 : Hid (Chg (· = c) w (w2.drewN nq)) := G2.out.step (z0u w2.heap.size w2 nq)
      generalize w2.drewN nq=W3 at *
      clear c34 c35 c36 c61 c62 f62 H2 G2 t1 t2 t3 t4 ui0 ui1 us0 us1
      have c62:W3.cell? ⟨c,62,none⟩=some (.int .i64 cn):=by rw[H3.out.cell 62 (by decide)];show some (Value.int .i64 s.came)=_;rw[hcn]
      have f62:=H3.out.free 62
      have H4:Hid (z0i (W3.setCell ⟨c,62,none⟩ (.int .i64 (cn+1))) c { z2t s with came:=cn+1 }):=H3.out.put 62 _ (fun j _=>cg_came (z2t s) _ j)
      have G4 : Hid (Chg (· = c) w (W3.setCell ⟨c, 62, none⟩ (.int .i64 (cn + 1)))) := G3.out.own _
      have RG:Hid ((W3.setCell ⟨c,62,none⟩ (.int .i64 (cn+1))).rangeAt c 1 (z0c s.f s.u).toList):=H4.out.regs
      clear H3 G3
      go_wp2_with (first | (refine z0w (by rfl) 32 (.tmp 81) rfl c 1 rfl (z0c s.f s.u) _ RG.out HR.out rfl (by rw[z0b];exact z0o) ?_))
      refine (CT.out _).mono ?_
      rintro e w5 ⟨rfl,b5⟩
      have H5:Hid _:=H4.out.below b5
      have G5:Hid _:=G4.out.step b5
      have TH:Hid _:=H5.out.there
      have H6:Hid (z0i (w5.setCells c 1 (z0c F false).toList) c { z2t s with came:=cn+1,f:=F,u:=false }):=H5.out.regsIn _ _
      have G6 : Hid (Chg (· = c) w (w5.setCells c 1 (z0c F false).toList)) := G5.out.owns _
      clear b5 H4 G4 H5 G5 RG c62 f62
      rename_i K1 hK1 K2 hK2
      refine hK2 _ _ ?_
      refine z3b ?_ (some 84) rfl (by rfl) ?_ ?_
      rotate_left
      · go_simp
        try with_reducible rfl
      simp only[Act.put,List.setIfInBounds_toArray,List.set_cons_zero,List.set_cons_succ]
      refine z3b ?_ (some 85) rfl (by rfl) ?_ ?_
      rotate_left
      · go_simp
        try with_reducible rfl
      simp only[Act.put,List.setIfInBounds_toArray,List.set_cons_zero,List.set_cons_succ]
      refine z1v rfl 32 (.tmp 85) (.tmp 83) rfl c 1 (z0c F false) rfl rfl (by rw[z0b];exact TH.out) (by rw[z0b];exact z0o) (z0s _ _) ?_
      intro W7 e7
      rw[← e7] at H6 G6
      clear e7 TH
      have c58:W7.cell? ⟨c,58,none⟩=some (.int .i64 st):=by rw[H6.out.cell 58 (by decide)];show some (Value.int .i64 s.t)=_;rw[HST.out]
      have f58:=H6.out.free 58
      have v3:=v2.out
      go_wp2
      go_ret
      refine⟨rfl,?_⟩
      rw[HV.out]
      exact z0x HM.out (H6.out.put 58 _ (fun j _=>cg_t { z2t s with came:=cn+1,f:=F,u:=false } _ j)) (G6.out.own _) rfl rfl
theorem mstep {w:World} {c bm cap B:Nat} {s:CS} {l:List Int} {es:List Ev} (h:z1q w c bm cap B s l es) (hF:Fine s es) (late:List Int) (hla:LateAt w c bm B s.la late) (hc0:0≤s.came) (hc1:s.came≤1000000000) (hmo:z4f s late≤1099511627776) :
  Calls Tryz.prog 15 #[.pointer (some ⟨c,0,none⟩)] w fun e w'=>e=.returned (.bool (!s.stop))∧Went w w' c bm cap B s (z3i late s l es):=by
 rcases (show s.stop=true∨s.stop=false by cases s.stop <;> simp) with hs | hs
 ·rw[hs];exact mstep_stop h late hs
 ·rw[hs]
  rcases (show z5y s=true∨z5y s=false by cases z5y s <;> simp) with ht | ht
  ·exact mstep_timer h hF late hla hc0 hc1 hmo hs ht
  ·exact mstep_do h hF late hs ht
def newC (m la:Value):CS:=⟨m,fun _=>0,false,0,false,0,la,0,0,0,0,.slice none 0 0,0,0,false⟩
theorem built70 (m la:Value) (hm:m.oneCell'=true) (hl:la.oneCell'=true):Tryz.prog.built 49 [(0,m),(5,la)]=some (z3q 70 (z0l (newC m la))):=by
 cases m <;> cases la <;> simp only[Value.oneCell'] at hm hl <;> first | contradiction | kernel_rfl
theorem infoM:(Tryz.prog.info? 28).map (fun i=>(i.zero,i.size,i.bytes))=some (some (.int .u32 0),1,4):=by kernel_rfl
theorem wpList_built70 {ops:Array Oper} {rest:List Oper} {o:Oper} {a:Act} {w:World} {Q:Exit→Act→World→Prop} (hg:o.guard=none) (x y:Operand) (ho:o.op=.build 49 #[(0,x),(5,y)]) (m la:Value) (hx:a.eval x=m) (hy:a.eval y=la) (hm:m.oneCell'=true) (hl:la.oneCell'=true)
  (h:wpList Tryz.prog ops Q rest (a.put o.dst (.agg (z3q 70 (z0l (newC m la))))) w):wpList Tryz.prog ops Q (o::rest) a w:=by
 have e:(#[(0,x),(5,y)].map fun (i,x)=>(i,a.eval x)).toList=[(0,m),(5,la)]:=by simp[hx,hy]
 refine wpList_build hg _ _ ho ?_ ?_
 ·rw[e,built70 m la hm hl];rfl
 ·rw[e,built70 m la hm hl];exact h
theorem mnew (b off n cp:Nat) (l:List Int) (hl:l.length=n) (h0:0<n) (hn:n≤1000000) (hu:∀ i,U32 (z0p l i)) (sa:Option Addr) (ln lc:Nat) (w:World) (hb:b<w.heap.size) (hc:∀ i,i<n→w.cell? ⟨b,off+i,none⟩=some (.int .u32 (z0p l i))) :
  Calls Tryz.prog 13 #[.slice (some ⟨b,off,none⟩) n cp,.slice sa ln lc] w fun e w'=>∃ c bm cap,e=.returned (.pointer (some ⟨c,0,none⟩))∧z1q w' c bm cap (c+1) (newC (.slice (some ⟨bm,0,none⟩) l.length cap) (.slice sa ln lc)) l []∧Below w.heap.size w w'∧w.heap.size≤bm∧w.heap.size≤c:=by
 obtain⟨i0,hi0,hz0,hz1,hz2⟩:=info_parts infoM
 have HU:Hid _:=hu
 have HL:Hid _:=hl
 have hbs:∀ w,(Instr.buildSlice 23 0 #[]).run Tryz.prog w=.ok (.slice (some ⟨w.heap.size,0,none⟩) 0 0) (w.alloc (.cells #[] 28)):=fun w=>by kernel_rfl
 have O1:Hid ((w.alloc (.cells #[] 28)).ownsRow w.heap.size 28 1 (.slice (some ⟨w.heap.size,0,none⟩) 0 0) 0 []):=⟨rfl,Or.inr ⟨w.heap.size,0,#[],rfl,Nat.le_refl _,z0g _ _,Nat.le_refl _,Nat.zero_le _,rfl,rfl⟩⟩
 have HN:Hid (∀ j u,(l.map fun x=>Value.int .u32 x)[j]?=some u→(w.alloc (.cells #[] 28)).cell? ((⟨b,off,none⟩:Addr).add j)=some u):=fun j u hju=>by
  have hj:j<n:=by
   have:=(List.getElem?_eq_some_iff.1 hju).1
   rw[List.length_map] at this;omega
  rw[Addr.add_mid,((Below.refl w.heap.size w).alloc (Nat.le_refl _) _).cell (p:=⟨b,off+j,none⟩) hb,hc j hj,← hju,List.getElem?_map]
  unfold z0p
  rw[List.getD_eq_getElem?_getD,List.getElem?_eq_getElem (by omega)]
  rfl
 have H1:Hid (∀ u∈l.map (fun x=>Value.int .u32 x),u.oneCell'=true):=fun u hu=>by obtain⟨x,_,rfl⟩:=List.mem_map.1 hu;rfl
 have HLen:Hid ((l.map fun x=>Value.int .u32 x).length=n*1):=by show _=_;rw[List.length_map,Nat.mul_one];exact HL.out
 clear hu hl hc
 go_enter Tryz.func13,Tryz.ntmps13
 go_wp2_with (first | (refine wpList_append_lies _ rfl (.tmp 5) (.tmp 6) 23 rfl w.heap.size 28 i0 _ 1 4 Tryz.underlying23 hi0 hz0 hz1 hz2 rfl (by omega) _ 0 [] rfl O1.out ⟨b,off,none⟩ n cp (l.map fun x=>Value.int .u32 x) rfl HLen.out HN.out H1.out h0 (by unfold maxLen;omega) (by omega) (by simp) _ rfl ?_;intro g cap w1 hown hgrow hat hlt) | (refine wpList_built70 rfl (.tmp 7) (.tmp 8) rfl _ _ rfl rfl rfl rfl ?_))
 go_ret
 obtain⟨_,⟨e1,_⟩ | ⟨g',cp',cur,e1,e2,e3,e4,e5,e6,e7⟩⟩:=hown
 ·cases e1
 simp only[Value.slice.injEq,Option.some.injEq,Addr.mk.injEq,and_true] at e1
 obtain⟨rfl,_,rfl⟩:=e1
 have hw1:(w.alloc (.cells #[] 28)).heap.size≤w1.heap.size:=hgrow.size
 rw[World.size_alloc] at hw1
 have hb1:Below w.heap.size w w1:=z4b ((Below.refl _ _).alloc (Nat.le_refl _) _) hgrow (by simp) (Nat.le_refl _)
 have hk:=z0f e3 ((Below.refl w1.heap.size w1).alloc (Nat.le_refl _) (.cells (z3q 70 (z0l (newC (.slice (some ⟨g,0,none⟩) n cap) (.slice sa ln lc)))) 49))
 obtain⟨k1,k2,k3⟩:=z0a hk
 have hl:=HL.out
 refine⟨w1.heap.size,g,cap,rfl,⟨⟨?_⟩,⟨?_,fun i hi=>?_,k2,k3,by omega,HU.out,by omega⟩,⟨rfl,Or.inl ⟨rfl,rfl⟩⟩,Nat.lt_succ_self _,by omega,by simp⟩,hb1.alloc (by omega) _,e2,by omega⟩
 ·rw[hl];exact z0g _ _
 ·rw[hl];rfl
 ·refine k1 i _ ?_
  have h1:(cur.toList.take ((0+n)*1))[i]?=some (.int .u32 (z0p l i)):=by
   rw[e7,List.nil_append,List.getElem?_map]
   unfold z0p
   rw[List.getD_eq_getElem?_getD,List.getElem?_eq_getElem hi]
   rfl
  rw[List.getElem?_take,if_pos (by omega)] at h1
  rw[← Array.getElem?_toList]
  exact h1
structure Okay (A B:Int) (s:CS):Prop where
 f:∀ i,U32 (s.f i)
 t0:0≤s.t
 t1:s.t≤A
 c0:0≤s.cmp
 c1:s.cmp≤B
 tk:U32 s.task
 kd:U32 s.kind
theorem Okay.mono {A B A' B':Int} {s:CS} (h:Okay A B s) (ha:A≤A') (hb:B≤B'):Okay A' B' s:=⟨h.f,h.t0,by have:=h.t1;omega,h.c0,by have:=h.c1;omega,h.tk,h.kd⟩
theorem z4m {f:Nat→Int} (hf:∀ i,U32 (f i)) (j:Nat) {x:Int} (hx:U32 x) (i:Nat):U32 (set1 f j x i):=by
 unfold set1
 split
 ·exact hx
 ·exact hf i
theorem ftrapS_u (s:Int) (u:Bool):U32 (z9m s u):=by
 unfold z9m
 repeat' split
 all_goals exact z1t _ _ _
theorem ftrap_u {f:Nat→Int} (hf:∀ i,U32 (f i)) (u:Bool) {c v:Int} (hc:U32 c) (hv:U32 v) (i:Nat):U32 (z5i f u c v i):=by
 unfold z5i
 repeat' split
 all_goals first | exact hf _ | exact ftrapS_u _ _ | exact hc | exact hv
theorem fret_u {f:Nat→Int} (hf:∀ i,U32 (f i)) (i:Nat):U32 (retF f i):=by
 unfold retF retS
 repeat' split
 all_goals first | exact hf _ | exact z1t _ _ _
theorem fkeep_u {n x:Int} (hx:U32 x):U32 (z7t n x):=by
 unfold z7t statV
 repeat' split
 all_goals first | exact z1t _ _ _ | exact hx | (obtain⟨h0,h1⟩:=hx;exact⟨by omega,by omega⟩)
theorem fwrite_u {f:Nat→Int} (hf:∀ i,U32 (f i)) (n:Int) {x:Int} (hx:U32 x) (i:Nat):U32 (z2o f n x i):=by
 unfold z2o
 cases z2f n with
 | none=>exact hf i
 | some j=>exact z4m hf j (fkeep_u hx) i
theorem fread_u {f:Nat→Int} (hf:∀ i,U32 (f i)) (n now:Int) (due:Bool):U32 (z4e f n now due):=by
 unfold z4e
 repeat' split
 all_goals first | exact hf _ | exact⟨by decide,by decide⟩ | exact⟨by omega,by omega⟩
theorem z6r (x:Int):U32 (x%4294967296):=⟨by omega,by omega⟩
theorem fload_u (l:List Int) (p n:Int) (sg:Bool):U32 (z1l l p n sg):=by
 unfold z1l
 split
 ·exact z8m _ _
 ·exact z4n _ _ _
theorem ok_fault {A B:Int} {s:CS} (h:Okay A B s) {c v:Int} (hc:U32 c) (hv:U32 v):Okay (A+4) B (z1j s c v):=
 ⟨ftrap_u h.f s.u hc hv,by show 0≤s.t+4;have:=h.t0;omega,by show s.t+4≤A+4;have:=h.t1;omega,h.c0,h.c1,h.tk,h.kd⟩
theorem z9p {A B:Int} {s:CS} (h:Okay A B s) {pc k:Int} (hp:U32 pc) (hk:0≤k):Okay (A+k) B (z2k s pc k):=
 ⟨z4m h.f 32 hp,by show 0≤s.t+k;have:=h.t0;omega,by show s.t+k≤A+k;have:=h.t1;omega,h.c0,h.c1,h.tk,h.kd⟩
theorem ok_lat {A B:Int} {s:CS} (h:Okay A B s) (p:Int):Okay A B { s with lat:=p }:=⟨h.f,h.t0,h.t1,h.c0,h.c1,h.tk,h.kd⟩
theorem ok_f {A B:Int} {s:CS} (h:Okay A B s) {f:Nat→Int} (hf:∀ i,U32 (f i)) (u:Bool):Okay A B { s with f:=f,u:=u }:=⟨hf,h.t0,h.t1,h.c0,h.c1,h.tk,h.kd⟩
theorem ok_setX {A B:Int} {s:CS} (h:Okay A B s) (d:Int) {x:Int} (hx:U32 x):Okay A B (setX s d x):=⟨z4m h.f _ hx,h.t0,h.t1,h.c0,h.c1,h.tk,h.kd⟩
structure Still (s s':CS):Prop where
 m:s'.m=s.m
 la:s'.la=s.la
 ev:s'.ev=s.ev
 came:s'.came=s.came
structure Way (A:Int) (s:CS) (l:List Int) (es:List Ev) (r:St):Prop where
 ok:Okay (A+8589934692) (A+17179869184) r.1
 still:Still s r.1
 len:r.2.1.length=l.length
 mem:∀ i,U32 (z0p r.2.1 i)
 evs:r.2.2=es∨∃ e,r.2.2=es++[e]
theorem z6x {A:Int} {s s':CS} {l:List Int} {es:List Ev} (ok:Okay (A+8589934692) (A+17179869184) s') (st:Still s s') (hm:∀ i,U32 (z0p l i)):Way A s l es (s',l,es):=⟨ok,st,rfl,hm,Or.inl rfl⟩
theorem z4y {A:Int} {s:CS} {l:List Int} {es:List Ev} (h:Okay A (A+8589934592) s) (hm:∀ i,U32 (z0p l i)) {c v:Int} (hc:U32 c) (hv:U32 v):Way A s l es (z1j s c v,l,es):=
 z6x ((ok_fault h hc hv).mono (by omega) (by omega)) ⟨rfl,rfl,rfl,rfl⟩ hm
theorem way_next {A:Int} {s:CS} {l:List Int} {es:List Ev} (h:Okay A (A+8589934592) s) (hm:∀ i,U32 (z0p l i)) {pc k:Int} (hp:U32 pc) (hk:0≤k) (hk':k≤20):Way A s l es (z2k s pc k,l,es):=
 z6x ((z9p h hp hk).mono (by omega) (by omega)) ⟨rfl,rfl,rfl,rfl⟩ hm
theorem z6j {A:Int} {s:CS} {l:List Int} {es:List Ev} (h:Okay A (A+8589934592) s) (hm:∀ i,U32 (z0p l i)) (b:Bool) (m:Int):Way A s l es (z4a s b m,l,es):=
 way_next h hm (z6r _) (by decide) (by decide)
theorem way_setX {A:Int} {s:CS} {l:List Int} {es:List Ev} (h:Okay A (A+8589934592) s) (hm:∀ i,U32 (z0p l i)) (d:Int) {x pc k:Int} (hx:U32 x) (hp:U32 pc) (hk:0≤k) (hk':k≤20):Way A s l es (z2k (setX s d x) pc k,l,es):=
 z6x ((z9p (ok_setX h d hx) hp hk).mono (by omega) (by omega)) ⟨rfl,rfl,rfl,rfl⟩ hm
theorem way_load {A:Int} {s:CS} {l:List Int} {es:List Ev} (h:Okay A (A+8589934592) s) (hm:∀ i,U32 (z0p l i)) (rd:Nat) {p:Int} (hp:U32 p) (n:Int) (sg:Bool):Way A s l es (z3m s l rd p n sg,l,es):=by
 unfold z3m
 split
 ·exact z6x ((ok_fault (ok_lat h p) ⟨by decide,by decide⟩ hp).mono (by omega) (by omega)) ⟨rfl,rfl,rfl,rfl⟩ hm
 split
 ·exact z6x ((ok_fault (ok_lat h p) ⟨by decide,by decide⟩ hp).mono (by omega) (by omega)) ⟨rfl,rfl,rfl,rfl⟩ hm
 ·exact z6x ((z9p (ok_f (ok_lat h p) (z4m h.f rd (fload_u _ _ _ _)) s.u) (z6r _) (by decide)).mono (by omega) (by omega)) ⟨rfl,rfl,rfl,rfl⟩ hm
theorem way_on {A:Int} {s s':CS} {l:List Int} {es:List Ev} (h:Okay A (A+8589934592+8589934592) s') (st:Still s s') (hm:∀ i,U32 (z0p l i)):Way A s l es (onS s',l,es):=
 z6x ((z9p h (z6r _) (by decide)).mono (by omega) (by omega)) ⟨st.m,st.la,st.ev,st.came⟩ hm
theorem way_store {A:Int} {s:CS} {l:List Int} {es:List Ev} (h:Okay A (A+8589934592) s) (hm:∀ i,U32 (z0p l i)) {p n x:Int} (hp:U32 p) (hx:U32 x):Way A s l es (z4z s l es p n x):=by
 have h0:Okay A (A+8589934592+8589934592) s:=h.mono (by omega) (by omega)
 have hf6:∀ c,U32 c→Way A s l es (z1j { s with lat:=p } c p,l,es):=fun c hc=>z6x ((ok_fault (ok_lat h p) hc hp).mono (by omega) (by omega)) ⟨rfl,rfl,rfl,rfl⟩ hm
 unfold z4z
 split
 ·exact hf6 6 ⟨by decide,by decide⟩
 split
 ·refine way_on ⟨h.f,h.t0,h.t1,?_,?_,h.tk,h.kd⟩ ⟨rfl,rfl,rfl,rfl⟩ hm
  ·show 0≤s.t+2+x;have:=h.t0;have:=hx.1;omega
  ·show s.t+2+x≤_;have:=h.t1;have:=hx.2;omega
 split
 ·exact way_on ⟨h0.f,h0.t0,h0.t1,h0.c0,h0.c1,hx,h0.kd⟩ ⟨rfl,rfl,rfl,rfl⟩ hm
 split
 ·exact way_on ⟨h0.f,h0.t0,h0.t1,h0.c0,h0.c1,h0.tk,hx⟩ ⟨rfl,rfl,rfl,rfl⟩ hm
 split
 ·have:=way_on (s':={ s with lat:=1073741836 }) (es:=es) (ok_lat h0 _) (s:=s) ⟨rfl,rfl,rfl,rfl⟩ hm
  exact⟨this.ok,this.still,rfl,hm,Or.inr ⟨_,rfl⟩⟩
 split
 ·exact way_on ⟨h0.f,h0.t0,h0.t1,h0.c0,h0.c1,h0.tk,h0.kd⟩ ⟨rfl,rfl,rfl,rfl⟩ hm
 split
 ·exact hf6 7 ⟨by decide,by decide⟩
 split
 ·exact hf6 7 ⟨by decide,by decide⟩
 ·have:=way_on (s':={ s with lat:=p }) (es:=es) (ok_lat h0 _) (s:=s) ⟨rfl,rfl,rfl,rfl⟩ hm
  refine⟨this.ok,this.still,by simp,fun i=>?_,Or.inl rfl⟩
  show U32 (z0p (l.set (p/4).toNat _) i)
  by_cases hi:(p/4).toNat=i
  ·subst hi
   by_cases hl:(p/4).toNat<l.length
   ·rw[z2u hl];exact z1t _ _ _
   ·rw[List.set_eq_of_length_le (by omega)];exact hm _
  ·rw[z2q hi];exact hm i
theorem way_csr {A:Int} {s:CS} {l:List Int} {es:List Ev} (h:Okay A (A+8589934592) s) (hm:∀ i,U32 (z0p l i)) (k rd:Nat) (r1 n:Int) {a wd:Int} (ha:U32 a) (hw:U32 wd):Way A s l es (csrS s k rd r1 n a wd,l,es):=by
 have ho:U32 (oldV s n):=fread_u h.f _ _ _
 have hx:U32 (csrX k (oldV s n) a):=by
  unfold csrX
  repeat' split
  all_goals first | exact ha | exact z1t _ _ _
 unfold csrS
 split
 ·exact z4y h hm ⟨by decide,by decide⟩ hw
 split
 ·split
  ·exact z4y h hm ⟨by decide,by decide⟩ hw
  ·exact z6x ((z9p (ok_f h (z4m (fwrite_u h.f n hx) rd ho) s.u) (z6r _) (by decide)).mono (by omega) (by omega)) ⟨rfl,rfl,rfl,rfl⟩ hm
 ·exact z6x ((z9p (ok_f h (z4m h.f rd ho) s.u) (z6r _) (by decide)).mono (by omega) (by omega)) ⟨rfl,rfl,rfl,rfl⟩ hm
theorem way_ret {A:Int} {s:CS} {l:List Int} {es:List Ev} (h:Okay A (A+8589934592) s) (hm:∀ i,U32 (z0p l i)):Way A s l es (retC s,l,es):=
 z6x ⟨fret_u h.f,by show 0≤s.t+4;have:=h.t0;omega,by show s.t+4≤_;have:=h.t1;omega,h.c0,by show s.cmp≤_;have:=h.c1;omega,h.tk,h.kd⟩ ⟨rfl,rfl,rfl,rfl⟩ hm
theorem way_wfi {A:Int} {s:CS} {l:List Int} {es:List Ev} (h:Okay A (A+8589934592) s) (hm:∀ i,U32 (z0p l i)):Way A s l es (wfiC s,l,es):=by
 unfold wfiC
 split
 ·refine z6x ⟨z4m h.f 32 (z6r _),?_,?_,h.c0,?_,h.tk,h.kd⟩ ⟨rfl,rfl,rfl,rfl⟩ hm
  ·show 0≤s.cmp+1;have:=h.c0;omega
  ·show s.cmp+1≤_;have:=h.c1;omega
  ·show s.cmp≤_;have:=h.c1;omega
 ·exact way_next h hm (z6r _) (by decide) (by decide)
theorem way_op {A:Int} {s:CS} {l:List Int} {es:List Ev} (h:Okay A (A+8589934592) s) (hm:∀ i,U32 (z0p l i)) (i:MIns):Way A s l es (opC s i,l,es):=by
 unfold opC
 split
 ·rename_i nm cost imm hl
  have hc:∀ q∈z6q,0≤q.2.2.1∧q.2.2.1≤20:=by decide +kernel
  have hq:∃ q∈z6q,q.2=(nm,cost,imm):=by
   have h1:∀ (t:List (List UInt8 × List UInt8 × Int × Bool)),t.lookup i.op=some (nm,cost,imm)→∃ q∈t,q.2=(nm,cost,imm):=by
    intro t
    induction t with
    | nil=>intro e;cases e
    | cons y r ih=>
     intro e
     obtain⟨k,v⟩:=y
     rw[List.lookup_cons] at e
     split at e
     ·exact⟨(k,v),.head _,by injection e⟩
     ·obtain⟨q,h2,h3⟩:=ih e
      exact⟨q,.tail _ h2,h3⟩
   exact h1 _ hl
  obtain⟨q,h1,h2⟩:=hq
  have h3:=hc q h1
  rw[h2] at h3
  have hb:U32 (if imm then i.m%4294967296 else s.f i.b.toNat):=by split;exact z6r _;exact h.f _
  exact z6x ((z9p (ok_f h (z4m h.f _ (opN_u32 nm (h.f _) hb)) s.u) (z6r _) h3.1).mono (by have:=h3.2;omega) (by omega)) ⟨rfl,rfl,rfl,rfl⟩ hm
 ·exact z6x (h.mono (by omega) (by omega)) ⟨rfl,rfl,rfl,rfl⟩ hm
theorem way_ins {A:Int} {s:CS} {l:List Int} {es:List Ev} (h:Okay A (A+8589934592) s) (hm:∀ i,U32 (z0p l i)) (i:MIns) {x:Int} (hx:U32 x):Way A s l es (insC s l es i x):=by
 have h4:=z6r (s.f 32+4)
 have hj:U32 ((s.f i.a.toNat+i.m%4294967296)%4294967296/2*2):=by
  have h1:=z6r (s.f i.a.toNat+i.m%4294967296)
  obtain⟨h1,h2⟩:=h1
  generalize (s.f i.a.toNat+i.m%4294967296)%4294967296=y at *
  exact⟨by omega,by omega⟩
 unfold insC
 by_cases n0:i.op=[108,117,105]
 ·rw[if_pos n0];exact way_setX h hm _ (z6r _) h4 (by decide) (by decide)
 rw[if_neg n0]
 by_cases n1:i.op=[97,117,105,112,99]
 ·rw[if_pos n1];exact way_setX h hm _ (z6r _) h4 (by decide) (by decide)
 rw[if_neg n1]
 by_cases n2:i.op=[106,97,108]
 ·rw[if_pos n2];exact way_setX h hm _ h4 (z6r _) (by decide) (by decide)
 rw[if_neg n2]
 by_cases n3:i.op=[106,97,108,114]
 ·rw[if_pos n3];exact way_setX h hm _ h4 hj (by decide) (by decide)
 rw[if_neg n3]
 by_cases n4:i.op=[98,101,113]
 ·rw[if_pos n4];exact z6j h hm _ _
 rw[if_neg n4]
 by_cases n5:i.op=[98,110,101]
 ·rw[if_pos n5];exact z6j h hm _ _
 rw[if_neg n5]
 by_cases n6:i.op=[98,108,116]
 ·rw[if_pos n6];exact z6j h hm _ _
 rw[if_neg n6]
 by_cases n7:i.op=[98,103,101]
 ·rw[if_pos n7];exact z6j h hm _ _
 rw[if_neg n7]
 by_cases n8:i.op=[98,108,116,117]
 ·rw[if_pos n8];exact z6j h hm _ _
 rw[if_neg n8]
 by_cases n9:i.op=[98,103,101,117]
 ·rw[if_pos n9];exact z6j h hm _ _
 rw[if_neg n9]
 by_cases n10:i.op=[108,98]
 ·rw[if_pos n10];exact way_load h hm _ (z6r _) _ _
 rw[if_neg n10]
 by_cases n11:i.op=[108,104]
 ·rw[if_pos n11];exact way_load h hm _ (z6r _) _ _
 rw[if_neg n11]
 by_cases n12:i.op=[108,119]
 ·rw[if_pos n12];exact way_load h hm _ (z6r _) _ _
 rw[if_neg n12]
 by_cases n13:i.op=[108,98,117]
 ·rw[if_pos n13];exact way_load h hm _ (z6r _) _ _
 rw[if_neg n13]
 by_cases n14:i.op=[108,104,117]
 ·rw[if_pos n14];exact way_load h hm _ (z6r _) _ _
 rw[if_neg n14]
 by_cases n15:i.op=[115,98]
 ·rw[if_pos n15];exact way_store h hm (z6r _) (h.f _)
 rw[if_neg n15]
 by_cases n16:i.op=[115,104]
 ·rw[if_pos n16];exact way_store h hm (z6r _) (h.f _)
 rw[if_neg n16]
 by_cases n17:i.op=[115,119]
 ·rw[if_pos n17];exact way_store h hm (z6r _) (h.f _)
 rw[if_neg n17]
 by_cases n18:i.op=[99,115,114,114,119]
 ·rw[if_pos n18];exact way_csr h hm _ _ _ _ (h.f _) hx
 rw[if_neg n18]
 by_cases n19:i.op=[99,115,114,114,115]
 ·rw[if_pos n19];exact way_csr h hm _ _ _ _ (h.f _) hx
 rw[if_neg n19]
 by_cases n20:i.op=[99,115,114,114,99]
 ·rw[if_pos n20];exact way_csr h hm _ _ _ _ (h.f _) hx
 rw[if_neg n20]
 by_cases n21:i.op=[109,114,101,116]
 ·rw[if_pos n21];exact way_ret h hm
 rw[if_neg n21]
 by_cases n22:i.op=[119,102,105]
 ·rw[if_pos n22];exact way_wfi h hm
 rw[if_neg n22]
 by_cases n23:i.op=[102,101,110,99,101]
 ·rw[if_pos n23];exact way_next h hm h4 (by decide) (by decide)
 rw[if_neg n23]
 by_cases n24:i.op=[101,99,97,108,108]
 ·rw[if_pos n24];exact z4y h hm (by split <;> exact⟨by decide,by decide⟩) ⟨by decide,by decide⟩
 rw[if_neg n24]
 by_cases n25:i.op=[101,98,114,101,97,107]
 ·rw[if_pos n25];exact z4y h hm ⟨by decide,by decide⟩ (h.f 32)
 rw[if_neg n25]
 exact way_op h hm i
theorem way_do {A:Int} {s:CS} {l:List Int} {es:List Ev} (h:Okay A (A+8589934592) s) (hm:∀ i,U32 (z0p l i)):Way A s l es (doC s l es):=by
 unfold doC
 split
 ·exact z4y h hm ⟨by decide,by decide⟩ (h.f 32)
 split
 ·exact z4y h hm ⟨by decide,by decide⟩ (h.f 32)
 split
 ·exact z4y h hm ⟨by decide,by decide⟩ (h.f 32)
 split
 ·exact z4y h hm ⟨by decide,by decide⟩ (z2l _ _ _)
 split
 ·exact z4y h hm ⟨by decide,by decide⟩ (z2l _ _ _)
 ·exact way_ins h hm _ (z2l _ _ _)
structure Stepped (A Mo:Int) (s:CS) (l:List Int) (es:List Ev) (r:St):Prop where
 ok:Okay (A+8589934692+Mo) (A+8589934692+Mo+8589934592) r.1
 m:r.1.m=s.m
 la:r.1.la=s.la
 ev:r.1.ev=s.ev
 came:s.came≤r.1.came∧r.1.came≤s.came+1
 len:r.2.1.length=l.length
 mem:∀ i,U32 (z0p r.2.1 i)
 evs:r.2.2=es∨∃ e,r.2.2=es++[e]
theorem stepped {A Mo:Int} {s:CS} {l:List Int} {es:List Ev} (h:Okay A (A+8589934592) s) (hm:∀ i,U32 (z0p l i)) (late:List Int) (hmo:z4f s late≤Mo):Stepped A Mo s l es (z3i late s l es):=by
 have hp:0≤z4f s late:=by
  unfold z4f
  split
  ·omega
  ·decide
 unfold z3i
 split
 ·exact⟨h.mono (by omega) (by omega),rfl,rfl,rfl,⟨Int.le_refl _,by show s.came≤s.came+1;omega⟩,rfl,hm,Or.inl rfl⟩
 split
 ·refine⟨⟨ftrap_u h.f s.u ⟨by decide,by decide⟩ ⟨by decide,by decide⟩,?_,?_,h.c0,?_,h.tk,h.kd⟩,rfl,rfl,rfl,⟨?_,?_⟩,rfl,hm,Or.inl rfl⟩
  ·show 0≤s.t+4+z4f s late;have:=h.t0;omega
  ·show s.t+4+z4f s late≤_;have:=h.t1;omega
  ·show s.cmp≤_;have:=h.c1;omega
  ·show s.came≤s.came+1;omega
  ·show s.came+1≤s.came+1;omega
 ·have h1:Okay A (A+8589934592) (z2t s):=⟨h.f,h.t0,h.t1,h.c0,h.c1,h.tk,h.kd⟩
  have hw:=way_do (es:=es) h1 hm
  have hk:=hw.ok.mono (A':=A+8589934692+Mo) (B':=A+8589934692+Mo+8589934592) (by omega) (by omega)
  refine⟨⟨z4m hk.f 0 ⟨by decide,by decide⟩,hk.t0,hk.t1,hk.c0,hk.c1,hk.tk,hk.kd⟩,hw.still.m,hw.still.la,hw.still.ev,?_,hw.len,hw.mem,hw.evs⟩
  have e:=hw.still.came
  show s.came≤(doC (z2t s) l es).1.came∧(doC (z2t s) l es).1.came≤s.came+1
  rw[e]
  show s.came≤s.came∧s.came≤s.came+1
  omega
end Go.Proofs.YtbmnmbkgdalkcaaGreatDoor
