/-
  Package lex: Next, IsName.
-/
import Derived.Test.YtjgpojjbjgdfkaaDoorLxn
namespace Go.Proofs.YtjgpojjbjgdfkaaDoor
open Go.RowKit

/-- A place, brought into a source. -/
def clampV (S : ByteArray) (x : Int) : Nat := (min (max x 0) S.size).toNat
theorem clamp_le (S : ByteArray) (x : Int) : clampV S x ≤ S.size := by
  unfold clampV
  omega
theorem rd_made (w : World) (o : Obj) (S : ByteArray) : Rd w.heap.size ((w.alloc o).alloc (.cells #[.string S, .map none] 48)) (w.heap.size + 1) S := by
  refine ⟨by omega, none, ?_, fun g h => by cases h⟩
  unfold RdAt
  have := alloc_at (w.alloc o) (.cells #[.string S, .map none] 48)
  rw [World.size_alloc] at this
  exact this
set_option maxRecDepth 100000 in
set_option maxHeartbeats 4000000 in
theorem lNextF {w : World} {S : ByteArray} (hS : S.size ≤ 281474976710656) (x : Int) (ev : Value) (hv : w.cell? ⟨1, 0, none⟩ = some ev) (hev : ev = .nilIface ∨ ∃ te pe, ev = .iface te pe)
    {K n : Int} {t : ByteArray} {a E : Nat} (hT : nextT S (clampV S x) = (K, t, n, a, E)) :
    Calls Tryd.prog 16 #[.string S, .int .i64 x] w fun e w' => e = .returned (.tuple #[.agg (tokC K t n a), .int .i64 E]) ∧ Below w.heap.size w w' := by
  obtain ⟨p, hp⟩ : ∃ p, p = clampV S x := ⟨_, rfl⟩
  rw [← hp] at hT
  have hps : p ≤ S.size := by rw [hp]; exact clamp_le _ _
  have HP : Hid (p = clampV S x) := hp
  have HT : Hid (nextT S p = (K, t, n, a, E)) := hT
  have hlt : 1 < w.heap.size := Lib.lt_of_cell hv
  have HV : Hid (w.cell? ⟨1, 0, none⟩ = some ev) := hv
  clear hp hT hv
  go_enter Tryd.func16, Tryd.ntmps16
  go_wp2_with fail
  have hpe : min (max x 0) (S.size : Int) = p := by
    rw [HP.out]
    unfold clampV
    omega
  obtain ⟨W, hW⟩ : ∃ W, W = (w.alloc (.cells (tokC 0 ⟨#[]⟩ 0 0) 33)).alloc (.cells #[.string S, .map none] 48) := ⟨_, rfl⟩
  have hWb : Below w.heap.size w W := by rw [hW]; exact box2
  have hWr : Rd w.heap.size W (w.heap.size + 1) S := by rw [hW]; exact rd_made _ _ _
  have hWk : W.heap[w.heap.size]? = some (.cells (tokC 0 ⟨#[]⟩ 0 0) 33) := by
    rw [hW]
    exact kept_on (alloc_at _ _) ((Below.refl _ _).alloc (Nat.le_refl _) _)
  have HVW : W.cell? ⟨1, 0, none⟩ = some ev := (hWb.cell (show (⟨1, 0, none⟩ : Addr).block < w.heap.size from hlt)).trans HV.out
  unfold tokC at hW
  rw [← hW, hpe]
  refine Calls.mono (lNext hWr hS p hps ev HVW hev HT.out) ?_
  rintro e w2 ⟨rfl, hO, _⟩
  have k2 := hO.kept hWk (by omega)
  have hb2 : Below w.heap.size w w2 := hWb.trans (hO.below (by omega) hWr.lt)
  obtain ⟨g1, g2, g3, g4, z1, z2, z3, z4⟩ := tok_at k2
  obtain ⟨Y, hY, hYk, hYb⟩ := tok_put k2 hb2 (Nat.le_refl _) K t n a
  obtain ⟨y1, y2, y3, y4, -, -, -, -⟩ := tok_at hYk
  have HYb : Hid _ := hYb
  clear hYk hYb k2 hb2 hO hWk hWr hWb hW HVW hpe
  unfold tokC
  go_wp2_with (rw [← hY])
  exact bodyPost_ret (v := .tuple #[.agg (tokC K t n a), .int .i64 (E : Nat)]) (by simp [results, Tryd.results16, go_sem, tokC, y1, y2, y3, y4]) rfl ⟨rfl, HYb.out⟩
/-- A name, with nothing around it. -/
def isNameV (S : ByteArray) : Bool := (nextT S 0).1 == 2 && (nextT S 0).2.1.toList == S.toList
set_option maxRecDepth 100000 in
set_option maxHeartbeats 4000000 in
theorem lIsName {w : World} {S : ByteArray} (hS : S.size ≤ 281474976710656) (ev : Value) (hv : w.cell? ⟨1, 0, none⟩ = some ev) (hev : ev = .nilIface ∨ ∃ te pe, ev = .iface te pe) :
    Calls Tryd.prog 12 #[.string S] w fun e w' => e = .returned (.bool (isNameV S)) ∧ Below w.heap.size w w' := by
  obtain ⟨K, t, n, a, E, hT⟩ : ∃ K t n a E, nextT S 0 = (K, t, n, a, E) := ⟨_, _, _, _, _, rfl⟩
  have h0 : clampV S 0 = 0 := by
    show (min (max 0 0) (S.size : Int)).toNat = 0
    omega
  have C : Hid _ := lNextF (w := w) (K := K) (n := n) (t := t) (a := a) (E := E) hS 0 ev hv hev (by rw [h0]; exact hT)
  have hR : isNameV S = (K == 2 && t.toList == S.toList) := by unfold isNameV; rw [hT]
  obtain ⟨R, hRR⟩ : ∃ R, R = isNameV S := ⟨_, rfl⟩
  have HR : Hid (R = (K == 2 && t.toList == S.toList)) := by rw [← hR]; exact hRR
  rw [← hRR]
  clear hR hT h0 hv hRR
  go_enter Tryd.func12, Tryd.ntmps12
  go_wp2_with fail
  refine Calls.mono C.out ?_
  rintro e w2 ⟨rfl, hb⟩
  unfold tokC
  have HB : Hid _ := hb
  clear hb C
  by_cases hK : K = 2
  · have e0 : R = (t.toList == S.toList) := by rw [HR.out, hK]; rfl
    clear HR
    subst e0
    subst hK
    go_wp2_with fail
    go_ret
    exact ⟨rfl, HB.out.alloc HB.out.size _⟩
  · have e1 : (K == 2) = false := by simpa using hK
    have e0 : R = false := by rw [HR.out, e1]; rfl
    clear HR
    subst e0
    go_wp2_with fail
    go_ret
    exact ⟨rfl, HB.out.alloc HB.out.size _⟩
end Go.Proofs.YtjgpojjbjgdfkaaDoor
