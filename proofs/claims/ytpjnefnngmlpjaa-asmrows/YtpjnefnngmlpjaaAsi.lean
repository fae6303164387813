/-
  Package asm: spans and findFar where there is no branch.
-/
import Derived.Test.YtpjnefnngmlpjaaAsh
namespace Go.Proofs.Ytpjnefnngmlpjaa
open Go.RowKit

set_option maxRecDepth 100000 in
set_option maxHeartbeats 2000000 in
theorem aSpans0 {w : World} {pb b off : Nat} {sa : Option Addr} {cap g gf : Nat} {base : Int} {xs : List It} (h : ProgAt w pb b off sa cap g gf base xs) (hl : xs.length ≤ 1000000) (ho : ∀ x ∈ xs, ItOk x) (hnb : ∀ x ∈ xs, x.kind ≠ 3) :
    Calls Try.prog 49 #[.pointer (some ⟨pb, 0, none⟩)] w fun e w' => e = .returned (.slice none 0 0) ∧ Below w.heap.size w w' := by
  have HP : Hid _ := h
  have HNB : Hid _ := hnb
  have c1 := h.slice
  have hmk := makeI xs.length hl
  rw [intsF_made] at hmk
  have CS : Hid _ := fun (w' : World) (hw : Below w.heap.size w w') => aStarts (h.below hw) hl ho
  obtain ⟨fi, hfi⟩ := undIt
  have HFI : Hid _ := hfi
  have B0 : Hid (Below w.heap.size w (w.alloc (.cells (intsF xs.length (fun _ => 0)) 3))) := (Below.refl _ _).alloc (Nat.le_refl _) _
  have R0 : Hid ((w.alloc (.cells (intsF xs.length (fun _ => 0)) 3)).heap[w.heap.size]? = some (.cells (intsF xs.length (fun _ => 0)) 3)) := alloc_at w _
  have c2 := (h.below B0.out).slice
  clear h ho hnb hfi
  generalize hln : xs.length = n at *
  have HLN : Hid (xs.length = n) := hln
  clear hln
  go_enter Try.func49, Try.ntmps49
  go_wp2_with fail
  go_loopw [3, 22] (fun l i wr => ∃ (k : Nat) (V : World), V = wr ∧ k ≤ n ∧ i = .int .i64 k ∧ l = .slice none 0 0 ∧ Hid ((∃ f, V.heap[w.heap.size]? = some (.cells (intsF n f) 3)) ∧ Below w.heap.size w V)) (fun _ i _ => n - (intOf i).toNat)
  case atStart => exact ⟨0, _, rfl, Nat.zero_le _, rfl, rfl, ⟨_, R0.out⟩, B0.out⟩
  case round =>
    clear R0 B0 c2
    obtain ⟨k, V, rfl, hk, rfl, rfl, hr⟩ := hrel
    by_cases hlt : k < n
    · obtain ⟨x, hx⟩ : ∃ x, xs[k]? = some x := ⟨_, List.getElem?_eq_getElem (by rw [HLN.out]; exact hlt)⟩
      have HX : Hid _ := hx
      have I1 : Hid _ := (HP.out.below hr.out.2).its
      obtain ⟨ea, hb⟩ := I1.out.at' (I1.out.lt hx)
      subst ea
      obtain ⟨f, hf⟩ := hr.out.1
      have HF : Hid _ := hf
      have k0 : (0 : Int) ≤ (k : Int) := by omega
      have k1 : (k : Int) < (n : Int) := by omega
      have hkd : (x.kind == 3) = false := by simp [HNB.out x (List.mem_of_getElem? hx)]
      clear hb hx hf c1
      go_wp2_with (first | (refine wpList_mids (by rfl) 34 (.tmp 25) rfl b (off + k * 9) rfl x.cells _ (I1.out.row k x HX.out) HFI.out rfl (by rw [It.size]; exact infoIt) ?_) | (refine wpList_fill rfl 34 (.tmp 6) (.tmp 26) rfl rfl x.cells rfl 34 _ (by rw [It.size]; exact infoIt) (by rw [It.size]; rfl) (It.one x) ?_))
      intro V2 R2 b2
      have B2 : Hid _ := below_step hr.out.2 b2
      have F2 : Hid _ := kept_on HF.out b2
      have hlt2 : w.heap.size < V.heap.size := (Array.getElem?_eq_some_iff.1 HF.out).1
      obtain ⟨ic, ifr, _⟩ := cells_of F2.out
      have d0 : V2.cell? ⟨w.heap.size, k, none⟩ = some (.int .i64 (f k)) := ic k _ (intsF_at n _ k hlt)
      have d1 := ifr k
      have R3 : Hid _ := heap_setCell_at (i := k) (.int .i64 0) F2.out
      have B3 : Hid (Below w.heap.size w (V2.setCell ⟨w.heap.size, k, none⟩ (.int .i64 0))) := B2.out.setCell (Nat.le_refl _) _
      have e0 : (V2.setCell ⟨w.heap.size, k, none⟩ (.int .i64 0)).cell? ⟨V.heap.size, 0, none⟩ = some (.int .i64 x.kind) := by
        refine (cells_of (?_ : (V2.setCell ⟨w.heap.size, k, none⟩ (.int .i64 0)).heap[V.heap.size]? = some (.cells x.cells 34))).1 0 _ rfl
        rw [Below.heap_setCell _ _ _ _ (show V.heap.size ≠ w.heap.size by omega)]
        exact R2
      clear ic ifr R2 b2 HF hr I1 B2 F2
      go_wp2_with fail
      exact ⟨⟨k + 1, _, rfl, hlt, by go_num, rfl, ⟨_, by have r := R3.out; rw [intsF_put] at r; exact r⟩, B3.out⟩, by simp [intOf]; omega⟩
    · have hkn : k = n := by omega
      subst hkn
      go_wp2_with fail
      refine Calls.mono (CS.out _ hr.out.2) ?_
      rintro e w2 ⟨gb, rfl, -, b2, -⟩
      have B2 : Hid _ := below_step hr.out.2 b2
      clear b2 hr CS
      go_wp2_with fail
      go_loopw [45] (fun i wr => ∃ V : World, V = wr ∧ i = .int .i64 0 ∧ Hid (Below w.heap.size w V)) (fun _ _ => 0)
      case atStart => exact ⟨_, rfl, rfl, B2.out⟩
      case round =>
        clear B2
        obtain ⟨V2, rfl, rfl, hr⟩ := hrel
        go_wp2_with fail
        go_ret
        exact ⟨rfl, hr.out⟩
set_option maxRecDepth 100000 in
set_option maxHeartbeats 2000000 in
theorem aFind0 {w : World} {pb b off : Nat} {sa : Option Addr} {cap g gf : Nat} {base : Int} {xs : List It} (h : ProgAt w pb b off sa cap g gf base xs) (hl : xs.length ≤ 1000000) (ho : ∀ x ∈ xs, ItOk x) (hnb : ∀ x ∈ xs, x.kind ≠ 3) :
    Calls Try.prog 24 #[.pointer (some ⟨pb, 0, none⟩)] w fun e w' => e = .returned (.tuple #[]) ∧ Below w.heap.size w w' := by
  have CS : Hid _ := aSpans0 h hl ho hnb
  clear h ho hnb
  go_enter Try.func24, Try.ntmps24
  go_wp2_with fail
  refine Calls.mono CS.out ?_
  rintro e w1 ⟨rfl, b1⟩
  have B1 : Hid _ := b1
  clear b1 CS
  go_wp2_with fail
  go_loopw [3, 10] (fun l i wr => ∃ V : World, V = wr ∧ i = .int .i64 0 ∧ l = .slice none 0 0 ∧ Hid (Below w.heap.size w V)) (fun _ _ _ => 0)
  case atStart => exact ⟨_, rfl, rfl, rfl, B1.out⟩
  case round =>
    clear B1
    obtain ⟨V2, rfl, rfl, rfl, hr⟩ := hrel
    go_wp2_with fail
    go_loopw [3] (fun i wr => ∃ V : World, V = wr ∧ i = .slice none 0 0 ∧ Hid (Below w.heap.size w V)) (fun _ _ => 0)
    case atStart => exact ⟨_, rfl, rfl, hr.out⟩
    case round =>
      clear hr
      obtain ⟨V3, rfl, rfl, hr⟩ := hrel
      go_wp2_with fail
      go_end0
      exact ⟨rfl, hr.out⟩
end Go.Proofs.Ytpjnefnngmlpjaa
