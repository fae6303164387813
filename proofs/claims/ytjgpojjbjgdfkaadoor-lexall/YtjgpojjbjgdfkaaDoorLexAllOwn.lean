/-
  For all bytes, places and names, LexAll answers true, and its arguments read as they read before.
  (The frame by the guide's program proof-skeleton.mjs; what the Go text does by the texts that it imports.)
-/
import Derived.Test.YtjgpojjbjgdfkaaDoorRows
import Derived.Test.YtjgpojjbjgdfkaaDoorCards
import Derived.Test.YtjgpojjbjgdfkaaDoorTie
import Derived.Test.YtjgpojjbjgdfkaaDoorHelp
import Derived.Test.YtjgpojjbjgdfkaaDoorLxa
import Derived.Test.YtjgpojjbjgdfkaaDoorLxb
import Derived.Test.YtjgpojjbjgdfkaaDoorLxc
import Derived.Test.YtjgpojjbjgdfkaaDoorLxd
import Derived.Test.YtjgpojjbjgdfkaaDoorPlain
import Derived.Test.YtjgpojjbjgdfkaaDoorLxm
import Derived.Test.YtjgpojjbjgdfkaaDoorHeld
import Derived.Test.YtjgpojjbjgdfkaaDoorInsall
import Derived.Test.YtjgpojjbjgdfkaaDoorLxs
import Derived.Test.YtjgpojjbjgdfkaaDoorShl
import Derived.Test.YtjgpojjbjgdfkaaDoorLxt
import Derived.Test.YtjgpojjbjgdfkaaDoorLxu
import Derived.Test.YtjgpojjbjgdfkaaDoorLxv
import Derived.Test.YtjgpojjbjgdfkaaDoorLxw
import Derived.Test.YtjgpojjbjgdfkaaDoorLxx
import Derived.Test.YtjgpojjbjgdfkaaDoorLxy
import Derived.Test.YtjgpojjbjgdfkaaDoorLxh
import Derived.Test.YtjgpojjbjgdfkaaDoorLxi
import Derived.Test.YtjgpojjbjgdfkaaDoorLxj
import Derived.Test.YtjgpojjbjgdfkaaDoorLxk
import Derived.Test.YtjgpojjbjgdfkaaDoorLxn
import Derived.Test.YtjgpojjbjgdfkaaDoorLxo
import Derived.Test.YtjgpojjbjgdfkaaDoorLxp
import Derived.Test.YtjgpojjbjgdfkaaDoorLxq
import Derived.Test.YtjgpojjbjgdfkaaDoorLxr
import Derived.Test.YtjgpojjbjgdfkaaDoorRxa
import Derived.Test.YtjgpojjbjgdfkaaDoorRxb
import Derived.Test.YtjgpojjbjgdfkaaDoorRxc
import Derived.Test.YtjgpojjbjgdfkaaDoorRxd
import Derived.Test.YtjgpojjbjgdfkaaDoorRxe
import Derived.Test.YtjgpojjbjgdfkaaDoorRxs
import Derived.Test.YtjgpojjbjgdfkaaDoorRxf
import Derived.Test.YtjgpojjbjgdfkaaDoorRxfb
import Derived.Test.YtjgpojjbjgdfkaaDoorRxfc
import Derived.Test.YtjgpojjbjgdfkaaDoorRxfd
import Derived.Test.YtjgpojjbjgdfkaaDoorRxg
import Derived.Test.YtjgpojjbjgdfkaaDoorRxh
import Derived.Test.YtjgpojjbjgdfkaaDoorRxi
import Derived.Test.YtjgpojjbjgdfkaaDoorRxj
import Derived.Test.YtjgpojjbjgdfkaaDoorLpa
import Derived.Test.YtjgpojjbjgdfkaaDoorRxk
import Derived.Test.YtjgpojjbjgdfkaaDoorLtb
import Derived.Test.YtjgpojjbjgdfkaaDoorCame
import Derived.Test.YtjgpojjbjgdfkaaDoorLawrw10
import Derived.Test.YtjgpojjbjgdfkaaDoorLtc
import Derived.Test.YtjgpojjbjgdfkaaDoorLawla10
import Derived.Test.YtjgpojjbjgdfkaaDoorLaid10
import Derived.LaidMore
import Derived.Lay
import Derived.SevenTiedAt
import Derived.Stop.Joined
import Derived.WalkKit
import Derived.ProofKit
import Derived.OpenShut
import Derived.ShutString
import Derived.ChangeOld
import Derived.Below
namespace Go.Proofs.YtjgpojjbjgdfkaaDoor
open Go.ChangeShapes Go.WideShapes Go.ChangeAt Go.RowKit
open Go.ChangeMaps (open_string shut_string)
set_option linter.unusedVariables false      -- a walk need not use every 'w<i>' (that an integer argument fits its kind)

theorem lexAll_own : ownKnob Tryd.prog.godebug = none := by kernel_rfl

/-! ### STEP 1: THE WALK: the Go text returns true. 'Grown w w'': the world has at most new blocks (Derived/RowKit3.lean). Part the cases AHEAD of 'go_enter' where a test parts the walk; take each callee by a contract of your own. -/
theorem lexAll_walk (a0 : ByteArray) (a1 : Int) (a2 : ByteArray) (w0 : a0.size ≤ maxLen) (w1 : (Lit.int .i64 a1).wf = true) (w2 : a2.size ≤ maxLen) (w : World) (hL : laidMetH Tryd.prog Rows.lexAllRow.laid w) :
    Calls Tryd.prog 3 #[.string a0, .int .i64 a1, .string a2] w fun e w' => e = .returned (.bool true) ∧ Below w.heap.size w w' := by
  exact lexAll a0 a1 a2 w (laid10 hL)

/-! ### THE ROW's STEP: WRITTEN OUT: LEAVE IT -/
set_option maxRecDepth 100000 in
theorem lexAll_lifted (os : Os) (started : os.Started) (H : Type) (enc : TypeId × Value → H) :
    ReturnsInHanded {} Tryd.checked os 3 .any (fun w args => (Rows.lexAllSpec.pre enc Tryd.prog Tryd.f3 Rows.lexAllRow.domain false w args ∧ laidMetH Tryd.prog Rows.lexAllRow.laid w) ∧ sizedMet enc Tryd.prog Tryd.f3 (OpenSpec.ofChange Rows.lexAllSpec) false w args)
      (Rows.lexAllSpec.post enc Tryd.prog Tryd.f3 false true false false) := by
  refine returnsInHanded_of_change_and (C := Tryd.checked) (X := fun w _ => laidMetH Tryd.prog Rows.lexAllRow.laid w) (fun _ _ _ hh h => h.of_heap hh) lexAll_own started (by kernel_rfl) Tryd.func3
    (ChangeSpec.witness_shaped (enc := enc) (C := Tryd.checked) (os := os) (X := fun w _ => laidMetH Tryd.prog Rows.lexAllRow.laid w) false (World.laidAll Tryd.prog os Rows.lexAllRow.laid) #[.string ByteArray.empty, .int .i64 0, .string ByteArray.empty] 8 (World.laidAll_os _ _ _)
      (World.shaped_of_ZipB (by kernel_rfl) (by kernel_rfl)) (by kernel_rfl) (by kernel_rfl) (by kernel_rfl)
      (by rw [MakeChecks.laidMetH_plain _ _ _ (by kernel_rfl)]; exact laidMet_laidAll _ (by kernel_rfl) (by kernel_rfl))) ?_
  intro W base args ds gs before hval0 hW hcnd _ hL _
  have hval : ∀ (j : Nat) t v, Tryd.f3.params[j]? = some t → args[j]? = some v → Value.okWide Tryd.prog W .any base t v := hval0
  have hW' := hW
  obtain ⟨p, q, hA0, hV, rfl, hfz, hnd⟩ := hW
  have hA : DataW.TrodAll enc Tryd.prog W 0 (fun _ => true) true Tryd.f3.params.toList args.toList ds p := hA0
  rw [Tryd.params3] at hA hval
  obtain ⟨v0, vs0, d0, ds0, p0, q0, hargs, rfl, rfl, h0, r0⟩ := trodAll_cons hA
  obtain ⟨v1, vs1, d1, ds1, p1, q1, rfl, rfl, rfl, h1, r1⟩ := trodAll_cons r0
  obtain ⟨v2, vs2, d2, ds2, p2, q2, rfl, rfl, rfl, h2, r2⟩ := trodAll_cons r1
  obtain ⟨rfl, rfl, rfl⟩ := trodAll_nil r2
  obtain rfl : args = #[v0, v1, v2] := by cases args; simp_all
  obtain ⟨rfl, rfl⟩ := trodVars_none hV
  obtain ⟨a0, rfl, rfl, rfl, w0⟩ := open_string Tryd.underlying9 (hval 0 9 v0 rfl rfl) h0
  obtain ⟨a1, rfl, rfl, rfl, w1⟩ := open_int Tryd.underlying3 (hval 1 3 v1 rfl rfl) h1
  obtain ⟨a2, rfl, rfl, rfl, w2⟩ := open_string Tryd.underlying9 (hval 2 9 v2 rfl rfl) h2
  clear hA0 hval0
  simp only [List.append_nil] at hW'
  refine (lexAll_walk a0 a1 a2 w0 w1 w2 W hL).mono fun e W' ⟨he, bel⟩ => ?_
  subst he
  exact ⟨_, rfl, _, _, _, [], [], [], hW', (trodAll_cons_mk (shut_bool Tryd.underlying4 _) trodAll_mk0), (trodAll_cons_mk (shut_string Tryd.underlying9 w0) (trodAll_cons_mk (shut_int Tryd.underlying3 w1) (trodAll_cons_mk (shut_string Tryd.underlying9 w2) trodAll_mk0))), rfl, bel.frame _, fun h => by cases h⟩

theorem lexAll_over : Rows.lexAllRow.holds Tryd.pinned (OpenSpec.ofChange Rows.lexAllSpec) :=
  OpenClaim.holds_of_wide 3 Tryd.f3 rfl rfl rfl rfl rfl rfl rfl ⟨rfl, rfl, rfl, rfl, rfl⟩ rfl rfl rfl rfl rfl (by kernel_rfl) Tryd.func3 (by kernel_rfl)
    (of_decide_eq_true (by kernel_rfl)) (by unfold Func.isWrapper; first | (rw [if_pos (by decide +kernel)]; kernel_rfl) | (rw [if_neg (by decide +kernel)]; exact ⟨rfl, rfl⟩))
    (fun os started H enc _ => lexAll_lifted os started H enc)

/-- The card: what the row lists is tied to the program's text. -/
theorem lexAll_proved : Rows.LexAllCardSaid :=
  Claim7.holds_tied_plain_at .later [] [.data, .data, .data, .sentinel, .sentinel] true (true, "5125a98bc2281dfd83aa25e9deb99c9c16e8dced71170949cb3585dd82df3181") true
    lexAll_over (fun _ h => by cases h) (by kernel_rfl) (fun _ h => by cases h) lexAll_row_tie rfl ⟨rfl, rfl⟩ (by kernel_rfl) rfl
    (fun f fn hf hfn => by
      obtain rfl : f = 3 := Option.some.inj ((show Tryd.prog.funcNamed "footman/footmanlaw10.LexAll" = some 3 by kernel_rfl).symm.trans hf) |>.symm
      obtain rfl : fn = Tryd.f3 := (Option.some.inj (Tryd.func3.symm.trans hfn)).symm
      exact ⟨by kernel_rfl, fun j t ht => by
        rw [Tryd.params3] at ht
        have hm : t ∈ [9, 3] := by
          have := Array.mem_of_getElem? ht
          simp at this ⊢
          first | omega | exact this | (rcases this with h | h <;> simp [h]) | (rcases this with h | h | h <;> simp [h])
        have hall : ([9, 3].all fun u => !Tryd.prog.wantsStandIn u) = true := by kernel_rfl
        exact (show Tryd.prog.wantsStandIn t = false by simpa using List.all_eq_true.1 hall t hm)⟩)
    (by kernel_rfl)
end Go.Proofs.YtjgpojjbjgdfkaaDoor
