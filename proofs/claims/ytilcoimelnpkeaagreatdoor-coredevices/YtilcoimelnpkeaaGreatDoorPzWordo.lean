/-
  Contracts of functions that the statement reaches, and what they are made of, callees first.
-/
import Derived.Outline
import Derived.Test.YtilcoimelnpkeaaGreatDoorRows
import Derived.WalkKit
import Derived.WalkLawsBesides
import Derived.WalkSpells
import Derived.Test.YtilcoimelnpkeaaGreatDoorPza
set_option maxRecDepth 100000
set_option maxHeartbeats 8000000
namespace Go.Proofs.YtilcoimelnpkeaaGreatDoor
open Go.RowKit
theorem ret_op {x y e f:Int} (h:x=y) (h':e=f):Ending.returned (.tuple #[.int .u32 x,.int .i64 e])=.returned (.tuple #[.int .u32 y,.int .i64 f]):=by rw[h,h']
theorem wordOp (s:ByteArray) (a b:Int) (ha:U32 a) (hb:U32 b) (w:World) :
  Calls Tryz.prog 72 #[.string s,.int .u32 a,.int .u32 b] w fun e w'=>e=.returned (.tuple #[.int .u32 (opN s.toList a b),.int .i64 (opE s.toList)])∧w'=w:=by
 have Ha:Hid (U32 a):=ha
 have Hb:Hid (U32 b):=hb
 obtain⟨ha0,ha1⟩:=ha
 obtain⟨hb1,hb2⟩:=hb
 by_cases hz:b=0
 ·have hb0:(b==0)=true:=by simpa using hz
  clear hz
  go_enter Tryz.func72,Tryz.ntmps72
  go_wp2
  all_goals go_ret2
  all_goals refine⟨ret_op ?_ ?_,rfl⟩
  all_goals simp only[opN,opE,opV, *,Bool.false_eq_true,reduceIte,Option.getD_some,Option.getD_none,Option.isSome_some,Option.isSome_none]
  all_goals (first | done | rfl | (unfold wSlt;rw[if_pos (by omega)]) | (unfold wSlt;rw[if_neg (by omega)]) | (unfold wSltu;rw[if_pos (by omega)]) | (unfold wSltu;rw[if_neg (by omega)]) | exact mulh_form a b | exact mulhsu_form Hb | exact z7j Ha Hb | (unfold wDiv;rw[if_pos (by simpa using hb0)]) | (unfold wDivu;rw[if_pos (by simpa using hb0)]) | (unfold wRem;rw[if_pos (by simpa using hb0)]) | (unfold wRemu;rw[if_pos (by simpa using hb0)]))
 ·have hb0:(b==0)=false:=by simpa using hz
  have hz'':Hid (wrap64 (wrap32 b)≠0):=den_ne Hb hz
  have hz':Hid (b≠0):=hz
  clear hz
  go_enter Tryz.func72,Tryz.ntmps72
  go_wp2
  all_goals (first | go_ret2 | exact absurd ‹wrap64 (wrap32 b)=0› hz'')
  all_goals refine⟨ret_op ?_ ?_,rfl⟩
  all_goals simp only[opN,opE,opV, *,Bool.false_eq_true,reduceIte,Option.getD_some,Option.getD_none,Option.isSome_some,Option.isSome_none]
  all_goals (first | done | rfl | (unfold wSlt;rw[if_pos (by omega)]) | (unfold wSlt;rw[if_neg (by omega)]) | (unfold wSltu;rw[if_pos (by omega)]) | (unfold wSltu;rw[if_neg (by omega)]) | exact mulh_form a b | exact mulhsu_form Hb | exact z7j Ha Hb | exact div_form hz' | exact divu_form Ha Hb hz' | exact rem_form hz' | (unfold wRemu;rw[if_neg hz']))
end Go.Proofs.YtilcoimelnpkeaaGreatDoor
