/-
  footmanref6: Sym of a part.
-/
import Derived.Test.YtfjppgfnjjmkpaaImr
namespace Go.Proofs.Ytfjppgfnjjmkpaa
open Go.RowKit

set_option maxRecDepth 100000 in
set_option maxHeartbeats 2000000 in
theorem rSym {w : World} {p : Pt} (hp : PtAt w p) (hfew : p.ss.length ≤ 1000) (hok : ∀ (k : Nat) (y : ByteArray × Int), p.ss[k]? = some y → 0 ≤ y.2 ∧ y.2 < 4294967296) (s : ByteArray) :
    Calls Try.prog 14 #[.agg p.cells, .string s] w fun e w' => e = .returned (placedR (p.ss.map (·.1)) (fun k => (p.ss.getD k (⟨#[]⟩, 0)).2) s) ∧ Below w.heap.size w w' := by
  have HP : Hid _ := hp
  have HOK : Hid _ := hok
  obtain ⟨fl, hfl⟩ := undPl
  have HFL : Hid _ := hfl
  have A1 : Below w.heap.size w (w.alloc (.cells p.cells 40)) := (Below.refl _ _).alloc (Nat.le_refl _) _
  have A2 : Below (w.alloc (.cells p.cells 40)).heap.size (w.alloc (.cells p.cells 40)) ((w.alloc (.cells p.cells 40)).alloc (.cells #[.int .i64 0, .bool false] 34)) := (Below.refl _ _).alloc (Nat.le_refl _) _
  have B1 : Hid (Below w.heap.size w ((w.alloc (.cells p.cells 40)).alloc (.cells #[.int .i64 0, .bool false] 34))) := below_step A1 A2
  have N0 : Hid (((w.alloc (.cells p.cells 40)).alloc (.cells #[.int .i64 0, .bool false] 34)).heap[w.heap.size]? = some (.cells p.cells 40)) := kept_on (alloc_at _ _) A2
  have N1 : Hid (((w.alloc (.cells p.cells 40)).alloc (.cells #[.int .i64 0, .bool false] 34)).heap[w.heap.size + 1]? = some (.cells #[.int .i64 0, .bool false] 34)) := by
    have := alloc_at (w.alloc (.cells p.cells 40)) (.cells #[.int .i64 0, .bool false] 34)
    rw [World.size_alloc] at this
    exact this
  have C10 : Hid (∀ V : World, V.heap[w.heap.size]? = some (.cells p.cells 40) → V.cell? ⟨w.heap.size, 10, none⟩ = some (.slice p.sa p.sl p.sc)) := fun V hV => (cells_of hV).1 10 _ rfl
  obtain ⟨RV, hRV⟩ : ∃ RV, RV = placedR (p.ss.map (·.1)) (fun k => (p.ss.getD k (⟨#[]⟩, 0)).2) s := ⟨_, rfl⟩
  have HRV : Hid (RV = placedR (p.ss.map (·.1)) (fun k => (p.ss.getD k (⟨#[]⟩, 0)).2) s) := hRV
  rw [← hRV]
  have HSL : Hid (p.sl = p.ss.length) := hp.sl
  have hsl : p.sl ≤ 1000 := by rw [hp.sl]; exact hfew
  clear hp hfl hRV A1 A2 hok hfew
  go_enter Try.func14, Try.ntmps14
  go_wp2_with fail
  go_loopw [5] (fun x wr => ∃ (k : Nat) (V : World), V = wr ∧ k ≤ p.sl ∧ x = .int .i64 k ∧ Hid ((∀ (j : Nat) y, j < k → p.ss[j]? = some y → y.1 ≠ s) ∧ Below w.heap.size w V ∧ V.heap[w.heap.size]? = some (.cells p.cells 40) ∧ V.heap[w.heap.size + 1]? = some (.cells #[.int .i64 0, .bool false] 34))) (fun x _ => p.sl - (intOf x).toNat)
  case atStart => exact ⟨0, _, rfl, Nat.zero_le _, rfl, fun j y hj => by omega, B1.out, N0.out, N1.out⟩
  case round =>
    clear B1 N0 N1
    obtain ⟨k, V, rfl, hk, rfl, hr⟩ := hrel
    have c10 := C10.out V hr.out.2.2.1
    by_cases hlt : k < p.sl
    · obtain ⟨y, hx⟩ : ∃ y, p.ss[k]? = some y := ⟨_, List.getElem?_eq_getElem (by rw [← HSL.out]; exact hlt)⟩
      have HX : Hid _ := hx
      obtain ⟨sb, soff, hsy⟩ := (HP.out.below hr.out.2.1).syms
      have hsa : p.sa = some ⟨sb, soff, none⟩ := (hsy.sa (by rw [← HSL.out]; omega)).1
      have RG : Hid _ := hsy.row k y hx
      have k0 : (0 : Int) ≤ (k : Int) := by omega
      have k1 : (k : Int) < (p.sl : Int) := by omega
      have b0 := (HOK.out k y hx).1
      have b1 := (HOK.out k y hx).2
      have cn : V.cell? ⟨sb, soff + k * 2, none⟩ = some (.string y.1) := by
        have := hsy.row k y hx 0 _ rfl
        exact this
      have ca : V.cell? ⟨sb, soff + k * 2 + 1, none⟩ = some (.int .u32 y.2) := by
        have := hsy.row k y hx 1 _ rfl
        exact this
      clear hsy hx
      rw [hsa] at c10
      by_cases hn : y.1 = s
      · have hv : RV = .agg #[.int .i64 y.2, .bool true] := by
          rw [HRV.out]
          unfold placedR
          rw [place_at 0 k (by rw [List.getElem?_map, HX.out]; show some y.1 = some s; rw [hn]) (names_low hr.out.1), Nat.zero_add]
          show Value.agg #[.int .i64 (p.ss.getD k (⟨#[]⟩, 0)).2, .bool true] = _
          rw [List.getD_eq_getElem?_getD, HX.out]
          rfl
        clear HRV
        subst hv hn
        go_wp2_with (first | (refine wpList_store_row rfl 34 (.tmp 4) (.tmp 28) rfl (w.heap.size + 1) #[.int .i64 y.2, .bool true] rfl rfl 34 #[.int .i64 0, .bool false] hr.out.2.2.2 infoPl rfl (by simp [Value.oneCell']) ?_))
        refine bodyPost_ret (results_cell_row rfl _ _ _ _ _ _ _ rfl (setRow_heap _ _ _ _ _ _ hr.out.2.2.2) HFL.out rfl infoPl) rfl ?_
        exact ⟨rfl, row_below hr.out.2.1 (by omega) _⟩
      · have hn3 : (y.1.toList == s.toList) = false := by
          cases h : (y.1.toList == s.toList) with
          | false => rfl
          | true => exact absurd (bytes_ext (by simpa using h)) hn
        have HNN : Hid (y.1 ≠ s) := hn
        clear hn
        go_wp2_with fail
        exact ⟨⟨k + 1, _, rfl, hlt, by go_num, fun j z hj hz => by
          by_cases hj2 : j < k
          · exact hr.out.1 j z hj2 hz
          · have : j = k := by omega
            subst this
            rw [HX.out] at hz
            cases hz
            exact HNN.out, hr.out.2⟩, by simp [intOf]; omega⟩
    · have k1 : ¬ (k : Int) < (p.sl : Int) := by omega
      have hv : RV = .agg #[.int .i64 0, .bool false] := by
        rw [HRV.out]
        unfold placedR
        rw [place_none 0 (fun j a ha => names_low hr.out.1 j a (by have := (List.getElem?_eq_some_iff.1 ha).1; rw [List.length_map, ← HSL.out] at this; omega) ha)]
      clear HRV
      subst hv
      go_wp2_with (first | (refine wpList_store_row rfl 34 (.tmp 4) (.tmp 29) rfl (w.heap.size + 1) #[.int .i64 0, .bool false] rfl rfl 34 #[.int .i64 0, .bool false] hr.out.2.2.2 infoPl rfl (by simp [Value.oneCell']) ?_))
      refine bodyPost_ret (results_cell_row rfl _ _ _ _ _ _ _ rfl (setRow_heap _ _ _ _ _ _ hr.out.2.2.2) HFL.out rfl infoPl) rfl ?_
      exact ⟨rfl, row_below hr.out.2.1 (by omega) _⟩
end Go.Proofs.Ytfjppgfnjjmkpaa
