/-
  Package image: Part, Sym.
-/
import Derived.Test.YtfjppgfnjjmkpaaImm
namespace Go.Proofs.Ytfjppgfnjjmkpaa
open Go.RowKit

/-- The place of the first one of a name. -/
def placeV : List ByteArray → ByteArray → Nat → Option Nat
  | [], _, _ => none
  | a :: l, s, k => if a = s then some k else placeV l s (k + 1)
theorem place_none {l : List ByteArray} {s : ByteArray} : ∀ k, (∀ (j : Nat) a, l[j]? = some a → a ≠ s) → placeV l s k = none := by
  induction l with
  | nil => intro k _; rfl
  | cons a l ih =>
    intro k h
    unfold placeV
    rw [if_neg (h 0 a rfl)]
    exact ih (k + 1) (fun j b hb => h (j + 1) b hb)
theorem place_at {l : List ByteArray} {s : ByteArray} : ∀ (k i : Nat), l[i]? = some s → (∀ (j : Nat) a, j < i → l[j]? = some a → a ≠ s) → placeV l s k = some (k + i) := by
  induction l with
  | nil => intro k i h _; cases h
  | cons a l ih =>
    intro k i h hlow
    unfold placeV
    cases i with
    | zero =>
      cases h
      rw [if_pos rfl]
      rfl
    | succ i =>
      rw [if_neg (hlow 0 a (by omega) rfl), ih (k + 1) i h (fun j b hj hb => hlow (j + 1) b (by omega) hb)]
      congr 1
      omega
def partR (ps : List Pt) (s : ByteArray) : Value := match placeV (ps.map Pt.name) s 0 with | some k => .tuple #[.int .i64 k, .bool true] | none => .tuple #[.int .i64 0, .bool false]
set_option maxRecDepth 100000 in
set_option maxHeartbeats 2000000 in
theorem iPart {w : World} {i : Im} {b off : Nat} (hp : PartsAt w b off i.pa i.ps) (hfew : i.ps.length ≤ 1000) (s : ByteArray) :
    Calls Try.prog 9 #[.agg i.cells, .string s] w fun e w' => e = .returned (partR i.ps s) ∧ Below w.heap.size w w' := by
  have HP : Hid _ := hp
  obtain ⟨fp, hfp⟩ := undPt
  have HFP : Hid _ := hfp
  have c9 : (w.alloc (.cells i.cells 28)).cell? ⟨w.heap.size, 9, none⟩ = some (.slice i.pa i.ps.length i.pc) := (cells_of (alloc_at w _)).1 9 _ rfl
  have B1 : Hid (Below w.heap.size w (w.alloc (.cells i.cells 28))) := (Below.refl _ _).alloc (Nat.le_refl _) _
  obtain ⟨RV, hRV⟩ : ∃ RV, RV = partR i.ps s := ⟨_, rfl⟩
  have HRV : Hid (RV = partR i.ps s) := hRV
  rw [← hRV]
  clear hp hfp hRV
  generalize hln : i.ps.length = n at *
  have HLN : Hid (i.ps.length = n) := hln
  clear hln
  go_enter Try.func9, Try.ntmps9
  go_wp2_with fail
  go_loopw [11] (fun x wr => ∃ (k : Nat) (V : World), V = wr ∧ k ≤ n ∧ x = .int .i64 k ∧ Hid ((∀ (j : Nat) p, j < k → i.ps[j]? = some p → p.name ≠ s) ∧ Below w.heap.size w V)) (fun x _ => n - (intOf x).toNat)
  case atStart => exact ⟨0, _, rfl, Nat.zero_le _, rfl, fun j p hj => by omega, B1.out⟩
  case round =>
    clear c9 B1
    obtain ⟨k, V, rfl, hk, rfl, hr⟩ := hrel
    by_cases hlt : k < n
    · obtain ⟨p, hx⟩ : ∃ p, i.ps[k]? = some p := ⟨_, List.getElem?_eq_getElem (by rw [HLN.out]; exact hlt)⟩
      have HX : Hid _ := hx
      have I1 : Hid _ := HP.out.below hr.out.2
      obtain ⟨ea, hb⟩ := I1.out.at' (I1.out.lt hx)
      rw [ea]
      have k0 : (0 : Int) ≤ (k : Int) := by omega
      have k1 : (k : Int) < (n : Int) := by omega
      clear hb hx ea
      go_wp2_with (first | (refine wpList_mids (by rfl) 40 (.tmp 14) rfl b (off + k * 11) rfl p.cells _ (I1.out.row k p HX.out) HFP.out rfl (by rw [Pt.size]; exact infoPt) ?_) | (refine wpList_fill rfl 40 (.tmp 7) (.tmp 15) rfl rfl p.cells rfl 40 _ (by rw [Pt.size]; exact infoPt) (by rw [Pt.size]; rfl) (Pt.one p) ?_))
      intro V2 R2 b2
      have B2 : Hid _ := below_step hr.out.2 b2
      have c0 : V2.cell? ⟨V.heap.size, 0, none⟩ = some (.string p.name) := (cells_of R2).1 0 _ rfl
      clear b2 I1 R2
      by_cases hn : p.name = s
      · have hv : RV = .tuple #[.int .i64 k, .bool true] := by
          rw [HRV.out]
          unfold partR
          rw [place_at 0 k (by rw [List.getElem?_map, HX.out]; show some p.name = some s; rw [hn]) (fun j a hj ha => by
            rw [List.getElem?_map] at ha
            cases hy : i.ps[j]? with
            | none => rw [hy] at ha; cases ha
            | some y => rw [hy] at ha; cases ha; exact hr.out.1 j y hj hy), Nat.zero_add]
        clear HRV
        subst hv hn
        go_wp2_with fail
        go_ret2
        exact ⟨rfl, B2.out⟩
      · have hn3 : (p.name.toList == s.toList) = false := by
          cases h : (p.name.toList == s.toList) with
          | false => rfl
          | true => exact absurd (bytes_ext (by simpa using h)) hn
        have HNN : Hid (p.name ≠ s) := hn
        clear hn
        go_wp2_with fail
        exact ⟨⟨k + 1, _, rfl, hlt, by go_num, fun j y hj hy => by
          by_cases hj2 : j < k
          · exact hr.out.1 j y hj2 hy
          · have : j = k := by omega
            subst this
            rw [HX.out] at hy
            cases hy
            exact HNN.out, B2.out⟩, by simp [intOf]; omega⟩
    · have k1 : ¬ (k : Int) < (n : Int) := by omega
      have hv : RV = .tuple #[.int .i64 0, .bool false] := by
        rw [HRV.out]
        unfold partR
        rw [place_none 0 (fun j a ha => by
          rw [List.getElem?_map] at ha
          cases hy : i.ps[j]? with
          | none => rw [hy] at ha; cases ha
          | some y => rw [hy] at ha; cases ha; exact hr.out.1 j y (by have := (List.getElem?_eq_some_iff.1 hy).1; rw [HLN.out] at this; omega) hy)]
      clear HRV
      subst hv
      go_wp2_with fail
      go_ret2
      exact ⟨rfl, hr.out.2⟩
end Go.Proofs.Ytfjppgfnjjmkpaa
