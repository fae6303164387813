/-
  For all texts by numbers and places, LexMade answers true, and its arguments read as they read before.
  (The frame by the guide's program proof-skeleton.mjs; what the Go text does by the texts that it imports.)
-/
import Derived.Test.YtjgpojjbjgdfkaaDoorRows
import Derived.Test.YtjgpojjbjgdfkaaDoorCards
import Derived.Test.YtjgpojjbjgdfkaaDoorTie
import Derived.Test.YtjgpojjbjgdfkaaDoorHelp
import Derived.Test.YtjgpojjbjgdfkaaDoorLxa
import Derived.Test.YtjgpojjbjgdfkaaDoorLxb
import Derived.Test.YtjgpojjbjgdfkaaDoorLxc
import Derived.Test.YtjgpojjbjgdfkaaDoorLxd
import Derived.Test.YtjgpojjbjgdfkaaDoorPlain
import Derived.Test.YtjgpojjbjgdfkaaDoorLxm
import Derived.Test.YtjgpojjbjgdfkaaDoorHeld
import Derived.Test.YtjgpojjbjgdfkaaDoorInsall
import Derived.Test.YtjgpojjbjgdfkaaDoorLxs
import Derived.Test.YtjgpojjbjgdfkaaDoorShl
import Derived.Test.YtjgpojjbjgdfkaaDoorLxt
import Derived.Test.YtjgpojjbjgdfkaaDoorLxu
import Derived.Test.YtjgpojjbjgdfkaaDoorLxv
import Derived.Test.YtjgpojjbjgdfkaaDoorLxw
import Derived.Test.YtjgpojjbjgdfkaaDoorLxx
import Derived.Test.YtjgpojjbjgdfkaaDoorLxy
import Derived.Test.YtjgpojjbjgdfkaaDoorLxh
import Derived.Test.YtjgpojjbjgdfkaaDoorLxi
import Derived.Test.YtjgpojjbjgdfkaaDoorLxj
import Derived.Test.YtjgpojjbjgdfkaaDoorLxk
import Derived.Test.YtjgpojjbjgdfkaaDoorLxn
import Derived.Test.YtjgpojjbjgdfkaaDoorLxo
import Derived.Test.YtjgpojjbjgdfkaaDoorLxp
import Derived.Test.YtjgpojjbjgdfkaaDoorLxq
import Derived.Test.YtjgpojjbjgdfkaaDoorLxr
import Derived.Test.YtjgpojjbjgdfkaaDoorRxa
import Derived.Test.YtjgpojjbjgdfkaaDoorRxb
import Derived.Test.YtjgpojjbjgdfkaaDoorRxc
import Derived.Test.YtjgpojjbjgdfkaaDoorRxd
import Derived.Test.YtjgpojjbjgdfkaaDoorRxe
import Derived.Test.YtjgpojjbjgdfkaaDoorRxs
import Derived.Test.YtjgpojjbjgdfkaaDoorRxf
import Derived.Test.YtjgpojjbjgdfkaaDoorRxfb
import Derived.Test.YtjgpojjbjgdfkaaDoorRxfc
import Derived.Test.YtjgpojjbjgdfkaaDoorRxfd
import Derived.Test.YtjgpojjbjgdfkaaDoorRxg
import Derived.Test.YtjgpojjbjgdfkaaDoorRxh
import Derived.Test.YtjgpojjbjgdfkaaDoorRxi
import Derived.Test.YtjgpojjbjgdfkaaDoorRxj
import Derived.Test.YtjgpojjbjgdfkaaDoorLpa
import Derived.Test.YtjgpojjbjgdfkaaDoorRxk
import Derived.Test.YtjgpojjbjgdfkaaDoorLtb
import Derived.Test.YtjgpojjbjgdfkaaDoorCame
import Derived.Test.YtjgpojjbjgdfkaaDoorLawrw10
import Derived.Test.YtjgpojjbjgdfkaaDoorLtc
import Derived.Test.YtjgpojjbjgdfkaaDoorLawla10
import Derived.Test.YtjgpojjbjgdfkaaDoorLaid10
import Derived.LaidMore
import Derived.Lay
import Derived.SevenTiedAt
import Derived.Stop.Joined
import Derived.WalkKit
import Derived.ProofKit
import Derived.OpenShut
import Derived.ShutString
import Derived.ChangeOld
import Derived.Below
namespace Go.Proofs.YtjgpojjbjgdfkaaDoor
open Go.ChangeShapes Go.WideShapes Go.ChangeAt Go.RowKit
open Go.ChangeMaps (open_string shut_string)
set_option linter.unusedVariables false

theorem lexMade_own : ownKnob Tryd.prog.godebug = none := by kernel_rfl
theorem lexMade_laidOut : laidOutB Tryd.prog = true := by kernel_rfl

/-- WHAT THE WALK IS TOLD OF A SLICE OF INTEGERS THAT CAME IN: it is nil; or it leads to a row of 'cap' cells, the numbers 'zs' (the first 'len' are its elements, the rest its spare room), each fitting its kind. -/
def lexMade_IsRow (k : IntKind) (w : World) (a : Option Addr) (len cap : Nat) (zs : List Int) : Prop :=
  (a = none ∧ len = 0 ∧ cap = 0 ∧ zs = []) ∨
  ∃ x, a = some x ∧ len ≤ cap ∧ cap ≤ maxLen ∧ zs.length = cap ∧ (∀ i, i < zs.length → w.cell? (x.add i) = some (.int k (zs.getD i 0))) ∧ ∀ n ∈ zs, (Lit.int k n).wf = true

/-! ### STEP 1: THE WALK: the Go text returns true, AND WRITES NOTHING THAT WAS THERE: 'Below w.heap.size w w'' (Derived/Below.lean: '.refl', '.alloc', '.drew', '.setCell' at a new block, '.trans'). Open each 'IsRow' by 'rcases' AHEAD of 'go_enter'; part every test ahead of the walk. -/
theorem lexMade_walk (a0 : Option Addr) (len0 cap0 : Nat) (z0 : List Int) (a1 : Int) (w : World) (w0 : lexMade_IsRow .u8 w a0 len0 cap0 z0) (w1 : (Lit.int .u8 a1).wf = true) (hL : laidMetH Tryd.prog Rows.lexMadeRow.laid w) :
    Calls Tryd.prog 4 #[.slice a0 len0 cap0, .int .u8 a1] w fun e w' => e = .returned (.bool true) ∧ Below w.heap.size w w' := by
  exact lexMade a0 len0 cap0 z0 a1 w w0 w1 (laid10 hL)

/-! ### THE ROW's STEP: WRITTEN OUT: LEAVE IT -/
set_option maxRecDepth 100000 in
theorem lexMade_lifted (os : Os) (started : os.Started) (H : Type) (enc : TypeId × Value → H) :
    ReturnsInHanded {} Tryd.checked os 4 .any (fun w args => (Rows.lexMadeSpec.pre enc Tryd.prog Tryd.f4 Rows.lexMadeRow.domain false w args ∧ laidMetH Tryd.prog Rows.lexMadeRow.laid w) ∧ sizedMet enc Tryd.prog Tryd.f4 (OpenSpec.ofChange Rows.lexMadeSpec) false w args)
      (Rows.lexMadeSpec.post enc Tryd.prog Tryd.f4 false true false false) := by
  refine returnsInHanded_of_change_and (C := Tryd.checked) (X := fun w _ => laidMetH Tryd.prog Rows.lexMadeRow.laid w) (fun _ _ _ hh h => h.of_heap hh) lexMade_own started (by kernel_rfl) Tryd.func4
    (ChangeSpec.witness_shaped (enc := enc) (C := Tryd.checked) (os := os) (X := fun w _ => laidMetH Tryd.prog Rows.lexMadeRow.laid w) false (World.laidAll Tryd.prog os Rows.lexMadeRow.laid) #[.slice none 0 0, .int .u8 0] 8 (World.laidAll_os _ _ _)
      (World.shaped_of_ZipB (by kernel_rfl) (by kernel_rfl)) (by kernel_rfl) (by kernel_rfl) (by kernel_rfl)
      (by rw [MakeChecks.laidMetH_plain _ _ _ (by kernel_rfl)]; exact laidMet_laidAll _ (by kernel_rfl) (by kernel_rfl))) ?_
  intro W base args ds gs before hval0 hW hcnd _ hL _
  have hval : ∀ (j : Nat) t v, Tryd.f4.params[j]? = some t → args[j]? = some v → Value.okWide Tryd.prog W .any base t v := hval0
  have hW' := hW
  obtain ⟨p, q, hA0, hV, rfl, hfz, hnd⟩ := hW
  have hA : DataW.TrodAll enc Tryd.prog W 0 (fun _ => true) true Tryd.f4.params.toList args.toList ds p := hA0
  rw [Tryd.params4] at hA hval
  obtain ⟨v0, vs0, d0, ds0, p0, q0, hargs, rfl, rfl, h0, r0⟩ := trodAll_cons hA
  obtain ⟨v1, vs1, d1, ds1, p1, q1, rfl, rfl, rfl, h1, r1⟩ := trodAll_cons r0
  obtain ⟨rfl, rfl, rfl⟩ := trodAll_nil r1
  obtain rfl : args = #[v0, v1] := by cases args; simp_all
  obtain ⟨rfl, rfl⟩ := trodVars_none hV
  obtain ⟨a0, len0, cap0, rfl⟩ := okWide_slice Tryd.underlying26 (hval 0 26 v0 rfl rfl)
  have k0 := h0
  have lt0 : ∀ x ∈ p0, x.block < W.heap.size := by obtain ⟨m, hm⟩ := k0; exact DataW.trod_lt m _ _ _ hm
  obtain ⟨z0, w0⟩ : ∃ zs, lexMade_IsRow .u8 W a0 len0 cap0 zs := by
    obtain ⟨fuel, hf⟩ := h0
    rcases open_ints Tryd.underlying26 Tryd.underlying5 (by kernel_rfl) hf with ⟨hcs, _⟩ | ⟨x, l, c, zs, hcs, _, hl, hm, hz, _, hcell, hwz⟩
    · simp [Value.cells] at hcs
      obtain ⟨rfl, rfl, rfl⟩ := hcs
      exact ⟨[], .inl ⟨rfl, rfl, rfl, rfl⟩⟩
    · simp [Value.cells] at hcs
      obtain ⟨rfl, rfl, rfl⟩ := hcs
      exact ⟨zs, .inr ⟨_, rfl, hl, hm, by simpa using hz, hcell, hwz⟩⟩
  obtain ⟨a1, rfl, rfl, rfl, w1⟩ := open_int Tryd.underlying5 (hval 1 5 v1 rfl rfl) h1
  clear hA0 hval0
  refine (lexMade_walk a0 len0 cap0 z0 a1 W w0 w1 hL).mono fun e W' ⟨he, bel⟩ => ?_
  subst he
  exact ⟨_, rfl, _, _, _, [], _, [], hW', trodAll_mk1 (shut_bool Tryd.underlying4 _), (trodAll_cons_mk (Below.trod lexMade_laidOut (by kernel_rfl) (of_decide_eq_true (by kernel_rfl)) k0 bel lt0) (trodAll_cons_mk (shut_int Tryd.underlying5 w1) trodAll_mk0)), rfl, bel.frame _, fun h => by cases h⟩

theorem lexMade_over : Rows.lexMadeRow.holds Tryd.pinned (OpenSpec.ofChange Rows.lexMadeSpec) :=
  OpenClaim.holds_of_wide 4 Tryd.f4 rfl rfl rfl rfl rfl rfl rfl ⟨rfl, rfl, rfl, rfl, rfl⟩ rfl rfl rfl rfl rfl (by kernel_rfl) Tryd.func4 (by kernel_rfl)
    (of_decide_eq_true (by kernel_rfl)) (by unfold Func.isWrapper; first | (rw [if_pos (by decide +kernel)]; kernel_rfl) | (rw [if_neg (by decide +kernel)]; exact ⟨rfl, rfl⟩))
    (fun os started H enc _ => lexMade_lifted os started H enc)

/-- The card: what the row lists is tied to the program's text. -/
theorem lexMade_proved : Rows.LexMadeCardSaid :=
  Claim7.holds_tied_plain_at .later [] [.data, .data, .data, .sentinel, .sentinel] true (true, "5125a98bc2281dfd83aa25e9deb99c9c16e8dced71170949cb3585dd82df3181") true
    lexMade_over (fun _ h => by cases h) (by kernel_rfl) (fun _ h => by cases h) lexMade_row_tie rfl ⟨rfl, rfl⟩ (by kernel_rfl) rfl
    (fun f fn hf hfn => by
      obtain rfl : f = 4 := Option.some.inj ((show Tryd.prog.funcNamed "footman/footmanlaw10.LexMade" = some 4 by kernel_rfl).symm.trans hf) |>.symm
      obtain rfl : fn = Tryd.f4 := (Option.some.inj (Tryd.func4.symm.trans hfn)).symm
      exact ⟨by kernel_rfl, fun j t ht => by
        rw [Tryd.params4] at ht
        have hm : t ∈ [26, 5] := by
          have := Array.mem_of_getElem? ht
          simp at this ⊢
          omega
        have hall : ([26, 5].all fun u => !Tryd.prog.wantsStandIn u) = true := by kernel_rfl
        exact (show Tryd.prog.wantsStandIn t = false by simpa using List.all_eq_true.1 hall t hm)⟩)
    (by kernel_rfl)
end Go.Proofs.YtjgpojjbjgdfkaaDoor
