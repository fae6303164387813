/-
  Package asm: hasName, firstWrong.
-/
import Derived.Test.YtpjnefnngmlpjaaAsd
import Derived.Test.YtpjnefnngmlpjaaAse
namespace Go.Proofs.Ytpjnefnngmlpjaa
open Go.RowKit

/-- Whether an item has the name that its kind asks for. -/
def nameOk (xs : List It) (k : Nat) (x : It) : Bool :=
  if x.kind = 1 then (!(x.name.toList == [])) && (((labF xs xs.length x.name).getD 0) == (k : Int))
  else if x.kind = 3 ∨ x.kind = 4 ∨ x.kind = 6 then (labF xs xs.length x.name).isSome else true
set_option maxRecDepth 100000 in
set_option maxHeartbeats 1000000 in
theorem aName {w : World} {pb b off : Nat} {sa : Option Addr} {cap g gf : Nat} {base : Int} {xs : List It} (h : ProgAt w pb b off sa cap g gf base xs) (hl : xs.length ≤ 1000000) (k : Nat) (x : It) (hx : xs[k]? = some x) (ho : ItOk x) :
    Calls Try.prog 48 #[.pointer (some ⟨pb, 0, none⟩), .int .i64 k] w fun e w' => e = .returned (.bool (nameOk xs k x)) ∧ Below w.heap.size w w' := by
  have hmo : Try.prog.follows .mixedOrders = true := by kernel_rfl
  have hk : k < xs.length := (List.getElem?_eq_some_iff.1 hx).1
  have H1 : Hid _ := h
  have c1 := h.slice
  obtain ⟨ea, hb⟩ := h.its.at' (by omega)
  subst ea
  have HR : Hid _ := h.its.row k x hx
  obtain ⟨fi, hfi⟩ := undIt
  have HFI : Hid _ := hfi
  have k0 : (0 : Int) ≤ (k : Int) := by omega
  have k1 : (k : Int) < (xs.length : Int) := by omega
  have HNM : Hid _ := ho.nm
  obtain ⟨r, hr⟩ : ∃ r, r = nameOk xs k x := ⟨_, rfl⟩
  rw [← hr]
  unfold nameOk at hr
  obtain ⟨L, hL⟩ : ∃ L, L = (labF xs xs.length x.name).getD 0 := ⟨_, rfl⟩
  obtain ⟨O, hO⟩ : ∃ O, O = (labF xs xs.length x.name).isSome := ⟨_, rfl⟩
  rw [← hL, ← hO] at hr
  have HL : Hid _ := hL
  have HO : Hid _ := hO
  have HRR : Hid _ := hr
  clear h hb hx hfi ho hr hL hO
  go_enter Try.func48, Try.ntmps48
  go_wp2_with (first | (refine wpList_mids (by rfl) 34 (.tmp 13) rfl b (off + k * 9) rfl x.cells _ HR.out HFI.out rfl (by rw [It.size]; exact infoIt) ?_) | (refine wpList_fill rfl 34 (.tmp 5) (.tmp 14) rfl rfl x.cells rfl 34 _ (by rw [It.size]; exact infoIt) (by rw [It.size]; rfl) (It.one x) ?_))
  intro V R B
  have HB : Hid _ := B
  have RV : Hid _ := R
  have HV : Hid _ := H1.out.below B
  have HTB : Hid (w.heap.size ≤ V.heap.size) := B.size
  clear B R HR HFI c1
  go_wp2_with fail
  refine wp_region_mix [] [.pointer (some ⟨pb, 0, none⟩), .pointer (some ⟨pb, 0, none⟩), .pointer (some ⟨pb, 2, none⟩), .map (some g), .pointer (some ⟨w.heap.size, 1, none⟩), .string x.name, .tuple #[.int .i64 L, .bool O], .tuple #[.int .i64 L, .bool O], .int .i64 L, .bool O, .int .i64 L, .bool O] hmo (by kernel_rfl) (by intro r hr; cases hr) ?_ (by intro r hr; cases hr) (by intro r hr; cases hr) ?_
  · generalize hl : lay _ _ _ = af
    have e0 : af.tmps[0]?.getD undef = .pointer (some ⟨pb, 0, none⟩) := by rw [← hl]; kernel_rfl
    have e16 : af.tmps[16]?.getD undef = .pointer (some ⟨pb, 0, none⟩) := by rw [← hl]; kernel_rfl
    have e17 : af.tmps[17]?.getD undef = .pointer (some ⟨pb, 0, none⟩) := by rw [← hl]; kernel_rfl
    have e18 : af.tmps[18]?.getD undef = .pointer (some ⟨pb, 2, none⟩) := by rw [← hl]; kernel_rfl
    have e5 : af.tmps[5]?.getD undef = .pointer (some ⟨w.heap.size, 0, none⟩) := by rw [← hl]; kernel_rfl
    have e20 : af.tmps[20]?.getD undef = .pointer (some ⟨w.heap.size, 1, none⟩) := by rw [← hl]; kernel_rfl
    have v19 : af.eval (.tmp 19) = .map (some g) := by rw [← hl]; kernel_rfl
    have v21 : af.eval (.tmp 21) = .string x.name := by rw [← hl]; kernel_rfl
    have e22 : af.tmps[22]?.getD undef = .tuple #[.int .i64 L, .bool O] := by rw [← hl]; kernel_rfl
    have e15 : af.tmps[15]?.getD undef = .tuple #[.int .i64 L, .bool O] := by rw [← hl]; kernel_rfl
    have e23 : af.tmps[23]?.getD undef = .int .i64 L := by rw [← hl]; kernel_rfl
    have e24 : af.tmps[24]?.getD undef = .bool O := by rw [← hl]; kernel_rfl
    clear hl
    refine And.intro (fun w' hw => quiet_run (by simp [execOp, go_sem, e0])) ?_
    refine And.intro (fun w' hw => quiet_run (by simp [execOp, go_sem, e16])) ?_
    refine And.intro (fun w' hw => quiet_run (by simp [execOp, go_sem, e17])) ?_
    refine And.intro (fun w' hw => by
      have c2 : w'.cell? ⟨pb, 2, none⟩ = some (.map (some g)) := (cells_of (HV.out.below hw).blk).1 2 _ rfl
      exact quiet_run (by simp [execOp, go_sem, e18, c2])) ?_
    refine And.intro (fun w' hw => quiet_run (by simp [execOp, go_sem, e5])) ?_
    refine And.intro (fun w' hw => by
      have c2 : w'.cell? ⟨w.heap.size, 1, none⟩ = some (.string x.name) := (cells_of (kept_on RV.out hw)).1 1 _ rfl
      exact quiet_run (by simp [execOp, go_sem, e20, c2])) ?_
    refine And.intro (fun w' hw => by
      have f := mapS_look (HV.out.below hw).lab x.name HNM.out true
      rw [← HL.out, ← HO.out] at f
      exact quiet_run (by simp [execOp, v19, v21, f, Result.andThen])) ?_
    refine And.intro (fun w' hw => quiet_run (by simp [execOp, go_sem, e22])) ?_
    refine And.intro (fun w' hw => quiet_run (by simp [execOp, go_sem, e15])) ?_
    refine And.intro (fun w' hw => quiet_run (by simp [execOp, go_sem, e15])) ?_
    refine And.intro (fun w' hw => quiet_run (by simp [execOp, go_sem, e23])) ?_
    refine And.intro (fun w' hw => quiet_run (by simp [execOp, go_sem, e24])) ?_
    exact True.intro
  · intro β w1 hw1 _ _
    have HW1 : Hid _ := HB.out.trans (hw1.mono HTB.out)
    obtain ⟨ic, _, _⟩ := cells_of (kept_on RV.out hw1)
    have d0 := ic 0 (.int .i64 x.kind) rfl
    have d1 := ic 1 (.string x.name) rfl
    clear ic RV HV HB H1 HNM HL HO hw1
    simp [putAl, lay, Act.put]
    by_cases q1 : x.kind = 1
    · have e : r = ((!(x.name.toList == [])) && (L == (k : Int))) := by rw [HRR.out, if_pos q1]
      have E : Hid _ := e
      clear e HRR
      cases hn : (x.name.toList == [])
      · rw [hn] at E
        go_wp2
        go_ret
        exact ⟨by rw [E.out]; rfl, HW1.out⟩
      · rw [hn] at E
        go_wp2
        go_ret
        exact ⟨by rw [E.out]; rfl, HW1.out⟩
    by_cases q3 : x.kind = 3 ∨ x.kind = 4 ∨ x.kind = 6
    · have e : r = O := by rw [HRR.out, if_neg q1, if_pos q3]
      have E : Hid _ := e
      clear e HRR q1
      rcases q3 with q | q | q
      all_goals
        go_wp2
        go_ret
        exact ⟨by rw [E.out]; rfl, HW1.out⟩
    have e : r = true := by rw [HRR.out, if_neg q1, if_neg q3]
    have E : Hid _ := e
    have r1 : (x.kind == 1) = false := by simp; omega
    have r3 : (x.kind == 3) = false := by simp; omega
    have r4 : (x.kind == 4) = false := by simp; omega
    have r6 : (x.kind == 6) = false := by simp; omega
    clear e HRR q1 q3
    go_wp2
    go_ret
    exact ⟨by rw [E.out]; rfl, HW1.out⟩
end Go.Proofs.Ytpjnefnngmlpjaa
