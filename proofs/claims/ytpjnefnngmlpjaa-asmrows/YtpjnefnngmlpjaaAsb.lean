/-
  A slice of items in a world; package asm's labels: the first one of each name.
-/
import Derived.Test.YtpjnefnngmlpjaaAsa
import Derived.Test.YtpjnefnngmlpjaaSmap
import Derived.Test.YtpjnefnngmlpjaaCells
namespace Go.Proofs.Ytpjnefnngmlpjaa
open Go.RowKit

/-- A slice of items. -/
structure ItsAt (w : World) (b off : Nat) (sa : Option Addr) (xs : List It) : Prop where
  at' : 0 < xs.length → sa = some ⟨b, off, none⟩ ∧ b < w.heap.size
  row : ∀ i x, xs[i]? = some x → w.rangeAt b (off + i * 9) x.cells.toList
theorem ItsAt.lt {w : World} {b off : Nat} {sa : Option Addr} {xs : List It} (_ : ItsAt w b off sa xs) {i : Nat} {x : It} (hx : xs[i]? = some x) : 0 < xs.length := by
  have := (List.getElem?_eq_some_iff.1 hx).1
  omega
theorem ItsAt.below {w w' : World} {b off : Nat} {sa : Option Addr} {xs : List It} (h : ItsAt w b off sa xs) (hb : Below w.heap.size w w') : ItsAt w' b off sa xs :=
  ⟨fun h0 => ⟨(h.at' h0).1, Nat.lt_of_lt_of_le (h.at' h0).2 hb.size⟩, fun i x hx j v hv => by
    rw [hb.cell (p := ⟨b, off + i * 9 + j, none⟩) (h.at' (h.lt hx)).2]
    exact h.row i x hx j v hv⟩
def labF (xs : List It) : Nat → ByteArray → Option Int
  | 0 => fun _ => none
  | k + 1 => match xs[k]? with
    | none => labF xs k
    | some x => if x.kind = 1 ∧ labF xs k x.name = none then updS (labF xs k) x.name k else labF xs k
set_option maxRecDepth 100000 in
set_option maxHeartbeats 4000000 in
theorem aLabels (b off cap : Nat) (sa : Option Addr) (xs : List It) (w : World) (h : ItsAt w b off sa xs) (hn : xs.length ≤ 1000000) (hN : ∀ x ∈ xs, Nm x.name) :
    Calls Try.prog 22 #[.slice sa xs.length cap] w fun e w' => ∃ g, e = .returned (.map (some g)) ∧ MapS w' g xs.length (labF xs xs.length) ∧ Below w.heap.size w w' ∧ w.heap.size ≤ g := by
  have HI : Hid _ := h
  have HN : Hid _ := hN
  have HL : Hid (xs.length ≤ 1000000) := hn
  obtain ⟨fi, hfi⟩ := undIt
  have HFI : Hid _ := hfi
  have hmk := smade
  have M0 : Hid (MapS (w.alloc (.map #[] 0)) w.heap.size 0 (labF xs 0)) := mapS_made w
  have B0 : Hid (Below w.heap.size w (w.alloc (.map #[] 0))) := (Below.refl _ _).alloc (Nat.le_refl _) _
  have hml : (xs.length : Int) ≤ 9223372036854775807 := by omega
  clear h hN hfi hn
  generalize hln : xs.length = n at *
  have HLN : Hid (xs.length = n) := hln
  clear hln
  go_enter Try.func22, Try.ntmps22
  go_wp2_with fail
  go_loopw [11] (fun i wr => ∃ (k : Nat) (V : World), V = wr ∧ k ≤ n ∧ i = .int .i64 k ∧ Hid (MapS V w.heap.size k (labF xs k) ∧ Below w.heap.size w V)) (fun i _ => n - (intOf i).toNat)
  case atStart => exact ⟨0, _, rfl, Nat.zero_le _, rfl, M0.out, B0.out⟩
  case round =>
    clear M0 B0
    obtain ⟨k, V, rfl, hk, rfl, hr⟩ := hrel
    by_cases hlt : k < n
    · obtain ⟨x, hx⟩ : ∃ x, xs[k]? = some x := ⟨_, List.getElem?_eq_getElem (by rw [HLN.out]; exact hlt)⟩
      have HX : Hid _ := hx
      have I1 : Hid _ := HI.out.below hr.out.2
      obtain ⟨ea, hb⟩ := I1.out.at' (I1.out.lt hx)
      subst ea
      have hnm : Nm x.name := HN.out x (List.mem_of_getElem? hx)
      have HNM : Hid _ := hnm
      have k0 : (0 : Int) ≤ (k : Int) := by omega
      have k1 : (k : Int) < (n : Int) := by omega
      have MV : Hid _ := hr.out.1
      have BV : Hid _ := hr.out.2
      clear hr hb hnm hx
      go_wp2_with (first | (refine wpList_mids (by rfl) 34 (.tmp 14) rfl b (off + k * 9) rfl x.cells _ (I1.out.row k x HX.out) HFI.out rfl (by rw [It.size]; exact infoIt) ?_) | (refine wpList_fill rfl 34 (.tmp 5) (.tmp 15) rfl rfl x.cells rfl 34 _ (by rw [It.size]; exact infoIt) (by rw [It.size]; rfl) (It.one x) ?_))
      intro V2 R2 b2
      have B2 : Hid _ := below_step BV.out b2
      have M2 : Hid _ := mapS_kept MV.out b2
      have hsz : w.heap.size ≤ V.heap.size := BV.out.size
      have hlt2 : w.heap.size < V.heap.size := mapS_lt MV.out
      obtain ⟨ic, _, _⟩ := cells_of R2
      have c0 : V2.cell? ⟨V.heap.size, 0, none⟩ = some (.int .i64 x.kind) := ic 0 _ rfl
      have c1 : V2.cell? ⟨V.heap.size, 1, none⟩ = some (.string x.name) := ic 1 _ rfl
      clear ic R2 b2 BV MV I1
      by_cases hkd : x.kind = 1
      · by_cases hM : labF xs k x.name = none
        · have e1 : labF xs (k + 1) = updS (labF xs k) x.name k := by
            show (match xs[k]? with | none => labF xs k | some x => if x.kind = 1 ∧ labF xs k x.name = none then updS (labF xs k) x.name k else labF xs k) = _
            rw [HX.out]
            exact if_pos ⟨hkd, hM⟩
          have E1 : Hid _ := e1
          have HM : Hid _ := hM
          clear e1 hM
          go_wp2_with (first | (refine wpList_sgetok rfl rfl rfl rfl M2.out HNM.out ?_; rw [HM.out]) | (refine wpList_sput rfl (Or.inl rfl) rfl rfl rfl M2.out HNM.out ⟨by omega, by omega⟩ (by unfold maxLen; omega) ?_; intro w3 M3 HO HB; have B3 := HB w.heap.size w (Nat.le_refl _) B2.out; clear HO HB))
          exact ⟨⟨k + 1, _, rfl, hlt, by go_num, ⟨by rw [E1.out]; exact M3, B3⟩⟩, by simp [intOf]; omega⟩
        · have e1 : labF xs (k + 1) = labF xs k := by
            show (match xs[k]? with | none => labF xs k | some x => if x.kind = 1 ∧ labF xs k x.name = none then updS (labF xs k) x.name k else labF xs k) = _
            rw [HX.out]
            exact if_neg (fun e => hM e.2)
          have E1 : Hid _ := e1
          have HS : Hid ((labF xs k x.name).isSome = true) := Option.isSome_iff_ne_none.2 hM
          clear e1 hM
          go_wp2_with (first | (refine wpList_sgetok rfl rfl rfl rfl M2.out HNM.out ?_; rw [HS.out]))
          exact ⟨⟨k + 1, _, rfl, hlt, by go_num, ⟨by rw [E1.out]; exact mapS_mono M2.out (Nat.le_succ _), B2.out⟩⟩, by simp [intOf]; omega⟩
      · have e1 : labF xs (k + 1) = labF xs k := by
          show (match xs[k]? with | none => labF xs k | some x => if x.kind = 1 ∧ labF xs k x.name = none then updS (labF xs k) x.name k else labF xs k) = _
          rw [HX.out]
          exact if_neg (fun e => hkd e.1)
        have E1 : Hid _ := e1
        have hkb : (x.kind == 1) = false := by simp [hkd]
        clear e1
        go_wp2_with fail
        exact ⟨⟨k + 1, _, rfl, hlt, by go_num, ⟨by rw [E1.out]; exact mapS_mono M2.out (Nat.le_succ _), B2.out⟩⟩, by simp [intOf]; omega⟩
    · have hkn : k = n := by omega
      subst hkn
      go_wp2_with fail
      go_ret
      exact ⟨_, rfl, hr.out.1, hr.out.2, Nat.le_refl _⟩
end Go.Proofs.Ytpjnefnngmlpjaa
