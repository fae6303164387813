/-
  footmanref6: Part and Sym of an image.
-/
import Derived.Test.YtfjppgfnjjmkpaaImq
import Derived.Laws.Rows
import Derived.Laws.Tables
namespace Go.Proofs.Ytfjppgfnjjmkpaa
open Go.RowKit

def placedR (l : List ByteArray) (f : Nat → Int) (s : ByteArray) : Value := match placeV l s 0 with | some k => .agg #[.int .i64 (f k), .bool true] | none => .agg #[.int .i64 0, .bool false]
theorem infoPl : (Try.prog.info? 34).map (·.size) = some 2 := by kernel_rfl
theorem undPl : ∃ fs, Try.prog.underlying 34 = some (.struct fs) := ⟨_, Try.underlying34⟩
theorem names_low {α : Type} {l : List α} {f : α → ByteArray} {s : ByteArray} {k : Nat} (h : ∀ (j : Nat) y, j < k → l[j]? = some y → f y ≠ s) : ∀ (j : Nat) a, j < k → (l.map f)[j]? = some a → a ≠ s := fun j a hj ha => by
  rw [List.getElem?_map] at ha
  cases hy : l[j]? with
  | none => rw [hy] at ha; cases ha
  | some y => rw [hy] at ha; cases ha; exact h j y hj hy
set_option maxRecDepth 100000 in
set_option maxHeartbeats 2000000 in
theorem rPart {w : World} {i : Im} {b off : Nat} (hp : PartsAt w b off i.pa i.ps) (hfew : i.ps.length ≤ 1000) (s : ByteArray) :
    Calls Try.prog 10 #[.agg i.cells, .string s] w fun e w' => e = .returned (placedR (i.ps.map Pt.name) (fun k => k) s) ∧ Below w.heap.size w w' := by
  have HP : Hid _ := hp
  obtain ⟨fl, hfl⟩ := undPl
  have HFL : Hid _ := hfl
  have A1 : Below w.heap.size w (w.alloc (.cells i.cells 28)) := (Below.refl _ _).alloc (Nat.le_refl _) _
  have A2 : Below (w.alloc (.cells i.cells 28)).heap.size (w.alloc (.cells i.cells 28)) ((w.alloc (.cells i.cells 28)).alloc (.cells #[.int .i64 0, .bool false] 34)) := (Below.refl _ _).alloc (Nat.le_refl _) _
  have B1 : Hid (Below w.heap.size w ((w.alloc (.cells i.cells 28)).alloc (.cells #[.int .i64 0, .bool false] 34))) := below_step A1 A2
  have N0 : Hid (((w.alloc (.cells i.cells 28)).alloc (.cells #[.int .i64 0, .bool false] 34)).heap[w.heap.size]? = some (.cells i.cells 28)) := kept_on (alloc_at _ _) A2
  have N1 : Hid (((w.alloc (.cells i.cells 28)).alloc (.cells #[.int .i64 0, .bool false] 34)).heap[w.heap.size + 1]? = some (.cells #[.int .i64 0, .bool false] 34)) := by
    have := alloc_at (w.alloc (.cells i.cells 28)) (.cells #[.int .i64 0, .bool false] 34)
    rw [World.size_alloc] at this
    exact this
  have C9 : Hid (∀ V : World, V.heap[w.heap.size]? = some (.cells i.cells 28) → V.cell? ⟨w.heap.size, 9, none⟩ = some (.slice i.pa i.ps.length i.pc)) := fun V hV => (cells_of hV).1 9 _ rfl
  obtain ⟨RV, hRV⟩ : ∃ RV, RV = placedR (i.ps.map Pt.name) (fun k => k) s := ⟨_, rfl⟩
  have HRV : Hid (RV = placedR (i.ps.map Pt.name) (fun k => k) s) := hRV
  rw [← hRV]
  clear hp hfl hRV A1 A2
  generalize hln : i.ps.length = n at *
  have HLN : Hid (i.ps.length = n) := hln
  clear hln
  go_enter Try.func10, Try.ntmps10
  go_wp2_with fail
  go_loopw [5] (fun x wr => ∃ (k : Nat) (V : World), V = wr ∧ k ≤ n ∧ x = .int .i64 k ∧ Hid ((∀ (j : Nat) p, j < k → i.ps[j]? = some p → p.name ≠ s) ∧ Below w.heap.size w V ∧ V.heap[w.heap.size]? = some (.cells i.cells 28) ∧ V.heap[w.heap.size + 1]? = some (.cells #[.int .i64 0, .bool false] 34))) (fun x _ => n - (intOf x).toNat)
  case atStart => exact ⟨0, _, rfl, Nat.zero_le _, rfl, fun j p hj => by omega, B1.out, N0.out, N1.out⟩
  case round =>
    clear B1 N0 N1
    obtain ⟨k, V, rfl, hk, rfl, hr⟩ := hrel
    have c9 := C9.out V hr.out.2.2.1
    by_cases hlt : k < n
    · obtain ⟨p, hx⟩ : ∃ p, i.ps[k]? = some p := ⟨_, List.getElem?_eq_getElem (by rw [HLN.out]; exact hlt)⟩
      have HX : Hid _ := hx
      have I1 := HP.out.below hr.out.2.1
      obtain ⟨ea, hb⟩ := I1.at' (I1.lt hx)
      rw [ea] at c9
      have cn : V.cell? ⟨b, off + k * 11, none⟩ = some (.string p.name) := by
        have := I1.row k p hx 0 _ rfl
        exact this
      have k0 : (0 : Int) ≤ (k : Int) := by omega
      have k1 : (k : Int) < (n : Int) := by omega
      clear hb hx ea I1
      by_cases hn : p.name = s
      · have hv : RV = .agg #[.int .i64 k, .bool true] := by
          rw [HRV.out]
          unfold placedR
          rw [place_at 0 k (by rw [List.getElem?_map, HX.out]; show some p.name = some s; rw [hn]) (names_low hr.out.1), Nat.zero_add]
        clear HRV
        subst hv hn
        go_wp2_with (first | (refine wpList_store_row rfl 34 (.tmp 4) (.tmp 22) rfl (w.heap.size + 1) #[.int .i64 k, .bool true] rfl rfl 34 #[.int .i64 0, .bool false] hr.out.2.2.2 infoPl rfl (by simp [Value.oneCell']) ?_))
        refine bodyPost_ret (results_cell_row rfl _ _ _ _ _ _ _ rfl (setRow_heap _ _ _ _ _ _ hr.out.2.2.2) HFL.out rfl infoPl) rfl ?_
        exact ⟨rfl, row_below hr.out.2.1 (by omega) _⟩
      · have hn3 : (p.name.toList == s.toList) = false := by
          cases h : (p.name.toList == s.toList) with
          | false => rfl
          | true => exact absurd (bytes_ext (by simpa using h)) hn
        have HNN : Hid (p.name ≠ s) := hn
        clear hn
        go_wp2_with fail
        exact ⟨⟨k + 1, _, rfl, hlt, by go_num, fun j y hj hy => by
          by_cases hj2 : j < k
          · exact hr.out.1 j y hj2 hy
          · have : j = k := by omega
            subst this
            rw [HX.out] at hy
            cases hy
            exact HNN.out, hr.out.2⟩, by simp [intOf]; omega⟩
    · have k1 : ¬ (k : Int) < (n : Int) := by omega
      have hv : RV = .agg #[.int .i64 0, .bool false] := by
        rw [HRV.out]
        unfold placedR
        rw [place_none 0 (fun j a ha => names_low hr.out.1 j a (by have := (List.getElem?_eq_some_iff.1 ha).1; rw [List.length_map, HLN.out] at this; omega) ha)]
      clear HRV
      subst hv
      go_wp2_with (first | (refine wpList_store_row rfl 34 (.tmp 4) (.tmp 23) rfl (w.heap.size + 1) #[.int .i64 0, .bool false] rfl rfl 34 #[.int .i64 0, .bool false] hr.out.2.2.2 infoPl rfl (by simp [Value.oneCell']) ?_))
      refine bodyPost_ret (results_cell_row rfl _ _ _ _ _ _ _ rfl (setRow_heap _ _ _ _ _ _ hr.out.2.2.2) HFL.out rfl infoPl) rfl ?_
      exact ⟨rfl, row_below hr.out.2.1 (by omega) _⟩
end Go.Proofs.Ytfjppgfnjjmkpaa
