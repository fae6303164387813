/-
  Package image: Sym.
-/
import Derived.Test.YtfjppgfnjjmkpaaImp
namespace Go.Proofs.Ytfjppgfnjjmkpaa
open Go.RowKit

def symR (l : List (ByteArray × Int)) (s : ByteArray) : Value := match placeV (l.map (·.1)) s 0 with | some k => .tuple #[.int .u32 (l.getD k (⟨#[]⟩, 0)).2, .bool true] | none => .tuple #[.int .u32 0, .bool false]
set_option maxRecDepth 100000 in
set_option maxHeartbeats 2000000 in
theorem iSym {w : World} {p : Pt} (hp : PtAt w p) (hfew : p.ss.length ≤ 1000) (s : ByteArray) :
    Calls Try.prog 13 #[.agg p.cells, .string s] w fun e w' => e = .returned (symR p.ss s) ∧ Below w.heap.size w w' := by
  have HP : Hid _ := hp
  obtain ⟨fs, hfs⟩ := undSy
  have HFS : Hid _ := hfs
  have c10 : (w.alloc (.cells p.cells 40)).cell? ⟨w.heap.size, 10, none⟩ = some (.slice p.sa p.sl p.sc) := (cells_of (alloc_at w _)).1 10 _ rfl
  have B1 : Hid (Below w.heap.size w (w.alloc (.cells p.cells 40))) := (Below.refl _ _).alloc (Nat.le_refl _) _
  obtain ⟨RV, hRV⟩ : ∃ RV, RV = symR p.ss s := ⟨_, rfl⟩
  have HRV : Hid (RV = symR p.ss s) := hRV
  rw [← hRV]
  have HSL : Hid (p.sl = p.ss.length) := hp.sl
  have hsl : p.sl ≤ 1000 := by rw [hp.sl]; exact hfew
  clear hp hfs hRV hfew
  go_enter Try.func13, Try.ntmps13
  go_wp2_with fail
  go_loopw [11] (fun x wr => ∃ (k : Nat) (V : World), V = wr ∧ k ≤ p.sl ∧ x = .int .i64 k ∧ Hid ((∀ (j : Nat) y, j < k → p.ss[j]? = some y → y.1 ≠ s) ∧ Below w.heap.size w V)) (fun x _ => p.sl - (intOf x).toNat)
  case atStart => exact ⟨0, _, rfl, Nat.zero_le _, rfl, fun j y hj => by omega, B1.out⟩
  case round =>
    clear c10 B1
    obtain ⟨k, V, rfl, hk, rfl, hr⟩ := hrel
    by_cases hlt : k < p.sl
    · obtain ⟨y, hx⟩ : ∃ y, p.ss[k]? = some y := ⟨_, List.getElem?_eq_getElem (by rw [← HSL.out]; exact hlt)⟩
      have HX : Hid _ := hx
      obtain ⟨sb, soff, hsy⟩ := (HP.out.below hr.out.2).syms
      have hsa : p.sa = some ⟨sb, soff, none⟩ := (hsy.sa (by rw [← HSL.out]; omega)).1
      have RG : Hid _ := hsy.row k y hx
      have k0 : (0 : Int) ≤ (k : Int) := by omega
      have k1 : (k : Int) < (p.sl : Int) := by omega
      clear hsy hx
      rw [hsa]
      go_wp2_with (first | (refine wpList_mids (by rfl) 49 (.tmp 13) rfl sb (soff + k * 2) rfl #[.string y.1, .int .u32 y.2] _ RG.out HFS.out rfl infoSy ?_) | (refine wpList_fill rfl 49 (.tmp 7) (.tmp 14) rfl rfl #[.string y.1, .int .u32 y.2] rfl 49 _ infoSy rfl (sy_one y) ?_))
      intro V2 R2 b2
      have B2 : Hid _ := below_step hr.out.2 b2
      have c0 : V2.cell? ⟨V.heap.size, 0, none⟩ = some (.string y.1) := (cells_of R2).1 0 _ rfl
      have c1 : V2.cell? ⟨V.heap.size, 1, none⟩ = some (.int .u32 y.2) := (cells_of R2).1 1 _ rfl
      clear b2 R2
      by_cases hn : y.1 = s
      · have hv : RV = .tuple #[.int .u32 y.2, .bool true] := by
          rw [HRV.out]
          unfold symR
          rw [place_at 0 k (by rw [List.getElem?_map, HX.out]; show some y.1 = some s; rw [hn]) (fun j a hj ha => by
            rw [List.getElem?_map] at ha
            cases hy : p.ss[j]? with
            | none => rw [hy] at ha; cases ha
            | some z => rw [hy] at ha; cases ha; exact hr.out.1 j z hj hy), Nat.zero_add]
          show Value.tuple #[.int .u32 (p.ss.getD k (⟨#[]⟩, 0)).2, .bool true] = _
          rw [List.getD_eq_getElem?_getD, HX.out]
          rfl
        clear HRV
        subst hv hn
        go_wp2_with fail
        go_ret2
        exact ⟨rfl, B2.out⟩
      · have hn3 : (y.1.toList == s.toList) = false := by
          cases h : (y.1.toList == s.toList) with
          | false => rfl
          | true => exact absurd (bytes_ext (by simpa using h)) hn
        have HNN : Hid (y.1 ≠ s) := hn
        clear hn
        go_wp2_with fail
        exact ⟨⟨k + 1, _, rfl, by omega, by go_num, fun j z hj hz => by
          by_cases hj2 : j < k
          · exact hr.out.1 j z hj2 hz
          · have : j = k := by omega
            subst this
            rw [HX.out] at hz
            cases hz
            exact HNN.out, B2.out⟩, by simp [intOf]; omega⟩
    · have k1 : ¬ (k : Int) < (p.sl : Int) := by omega
      have hv : RV = .tuple #[.int .u32 0, .bool false] := by
        rw [HRV.out]
        unfold symR
        rw [place_none 0 (fun j a ha => by
          rw [List.getElem?_map] at ha
          cases hy : p.ss[j]? with
          | none => rw [hy] at ha; cases ha
          | some z => rw [hy] at ha; cases ha; exact hr.out.1 j z (by have := (List.getElem?_eq_some_iff.1 hy).1; rw [← HSL.out] at this; omega) hy)]
      clear HRV
      subst hv
      go_wp2_with fail
      go_ret2
      exact ⟨rfl, hr.out.2⟩
end Go.Proofs.Ytfjppgfnjjmkpaa
