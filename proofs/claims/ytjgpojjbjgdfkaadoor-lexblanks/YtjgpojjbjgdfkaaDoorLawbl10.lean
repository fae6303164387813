/-
  LexBlanks: what stands ahead changes nothing of a token but its place.
-/
import Derived.Test.YtjgpojjbjgdfkaaDoorLawrw10
namespace Go.Proofs.YtjgpojjbjgdfkaaDoor
open Go.RowKit

def aheadL : List (List UInt8) := [[32], [9], [13], [10], [35, 32, 120, 32, 123, 32, 121, 10], [35, 10]]
def aheadS (k : Nat) : ByteArray := ⟨(aheadL.getD k []).toArray⟩
def aheadCells : Array Value := #[.string ⟨#[32]⟩, .string ⟨#[9]⟩, .string ⟨#[13]⟩, .string ⟨#[10]⟩, .string ⟨#[35, 32, 120, 32, 123, 32, 121, 10]⟩, .string ⟨#[35, 10]⟩]
theorem ahead_cell {k : Nat} (h : k < 6) : aheadCells[k]? = some (.string (aheadS k)) := by
  have : ∀ k : Fin 6, aheadCells[k.val]? = some (.string (aheadS k.val)) := fun k => by
    rcases k with ⟨k, hk⟩
    rcases (by omega : k = 0 ∨ k = 1 ∨ k = 2 ∨ k = 3 ∨ k = 4 ∨ k = 5) with rfl | rfl | rfl | rfl | rfl | rfl <;> rfl
  exact this ⟨k, h⟩
theorem ahead_blank {k : Nat} (h : k < 6) : Blank (aheadS k) := by
  rcases (by omega : k = 0 ∨ k = 1 ∨ k = 2 ∨ k = 3 ∨ k = 4 ∨ k = 5) with rfl | rfl | rfl | rfl | rfl | rfl
  · exact blank_byte rfl rfl
  · exact blank_byte rfl rfl
  · exact blank_byte rfl rfl
  · exact blank_byte rfl rfl
  · refine blank_note (m := 6) rfl rfl (fun k hk => ?_) rfl
    rcases (by omega : k = 0 ∨ k = 1 ∨ k = 2 ∨ k = 3 ∨ k = 4 ∨ k = 5 ∨ k = 6) with rfl | rfl | rfl | rfl | rfl | rfl | rfl <;> rfl
  · refine blank_note (m := 0) rfl rfl (fun k hk => ?_) rfl
    obtain rfl : k = 0 := by omega
    rfl
theorem ahead_len {k : Nat} (h : k < 6) : (aheadS k).size ≤ 8 := by
  have : ∀ k : Fin 6, (aheadS k.val).size ≤ 8 := by decide
  exact this ⟨k, h⟩
theorem next_blank {A S : ByteArray} (hA : Blank A) {K n : Int} {t : ByteArray} {a E : Nat} (hT : nextT S (clampV S 0) = (K, t, n, a, E)) : nextT (A ++ S) (clampV (A ++ S) 0) = (K, t, n, A.size + a, A.size + E) := by
  have h0 : ∀ X : ByteArray, clampV X 0 = 0 := fun X => by
    show (min (max 0 0) (X.size : Int)).toNat = 0
    omega
  rw [h0] at hT ⊢
  exact next_right (hA S) hT
theorem tok_shift {V : World} {b : Nat} {k n p : Int} {t : ByteArray} (h : V.heap[b]? = some (.cells (tokC k t n p) 33)) (q : Int) :
    ∃ Y, Y = V.setCell ⟨b, 3, none⟩ (.int .i64 q) ∧ Y.heap[b]? = some (.cells (tokC k t n q) 33) ∧ Below b V Y :=
  ⟨_, rfl, heap_setCell_at (i := 3) (.int .i64 q) h, (Below.refl b V).setCell (Nat.le_refl _) _⟩
set_option maxRecDepth 100000 in
set_option maxHeartbeats 4000000 in
theorem lexBlanks_way (sa : Option Addr) (n cap : Nat) (zs : List Int) (a' : Option Addr) (n' cap' : Nat) (zs' : List Int) (w : World) (b off b' off' : Nat) (ha : 0 < n → sa = some ⟨b, off, none⟩ ∧ b < w.heap.size) (hc : ∀ i, i < n → w.cell? ⟨b, off + i, none⟩ = some (.int .u8 (zs.getD i 0))) (hz : ∀ i, 0 ≤ zs.getD i 0 ∧ zs.getD i 0 ≤ 255)
    (ha' : 0 < n' → a' = some ⟨b', off', none⟩ ∧ b' < w.heap.size) (hc' : ∀ i, i < n' → w.cell? ⟨b', off' + i, none⟩ = some (.int .u8 (zs'.getD i 0))) (hz' : ∀ i, 0 ≤ zs'.getD i 0 ∧ zs'.getD i 0 ≤ 255)
    (ev : Value) (hv : w.cell? ⟨1, 0, none⟩ = some ev) (hev : ev = .nilIface ∨ ∃ te pe, ev = .iface te pe) :
    Calls Tryd.prog 7 #[.slice sa n cap, .slice a' n' cap'] w fun e w' => e = .returned (.bool true) ∧ Below w.heap.size w w' := by
  have hlt : 1 < w.heap.size := Lib.lt_of_cell hv
  have HV : Hid (∀ W, Below w.heap.size w W → W.cell? ⟨1, 0, none⟩ = some ev) := fun W hb => (hb.cell (p := ⟨1, 0, none⟩) hlt).trans hv
  have HE : Hid _ := hev
  have HA : Hid _ := ha'
  have HC : Hid _ := hc'
  have HZ : Hid _ := hz'
  have C : Hid _ := tText sa n cap zs w b off ha hc hz
  have n0 : (0 : Int) ≤ (n' : Int) := by omega
  clear ha hc hz ha' hc' hz' hv hev hlt
  go_enter Tryd.func7, Tryd.ntmps7
  go_wp2_with fail
  refine Calls.mono C.out ?_
  rintro e w1 ⟨S, rfl, hS, b1⟩
  have HS : Hid _ := hS
  have B1 : Hid _ := b1
  clear C hS b1
  go_wp2_with fail
  go_loopw [6, 7] (fun x y wr => ∃ (A : ByteArray) (k : Nat), x = .string A ∧ y = .int .i64 k ∧ k ≤ 12 ∧ A.size ≤ 8 * k ∧ Hid (Blank A) ∧ Hid (Below w.heap.size w wr)) (fun _ y _ => 12 - (intOf y).toNat)
  case atStart => exact ⟨⟨#[]⟩, 0, rfl, rfl, by omega, by decide, blank_none, B1⟩
  case round =>
    obtain ⟨A, k, rfl, rfl, hk, hAs, hA, hB⟩ := hrel
    have k0 : (0 : Int) ≤ (k : Int) := by omega
    by_cases hlt : k < 12 ∧ k < n'
    · obtain ⟨h12, hn⟩ := hlt
      have k1 : (k : Int) < 12 := by omega
      have k2 : (k : Int) < (n' : Int) := by omega
      obtain ⟨rfl, hbs⟩ := HA.out (by omega)
      obtain ⟨V, hV⟩ : ∃ V, V = wr.alloc (.cells aheadCells 9) := ⟨_, rfl⟩
      have BV : Hid (Below w.heap.size w V) := by rw [hV]; exact hB.out.alloc hB.out.size _
      have hVk : V.heap[wr.heap.size]? = some (.cells aheadCells 9) := by rw [hV]; exact alloc_at _ _
      have cz : V.cell? ⟨b', off' + k, none⟩ = some (.int .u8 (zs'.getD k 0)) := (BV.out.cell (p := ⟨b', off' + k, none⟩) hbs).trans (HC.out k hn)
      obtain ⟨z0, z1⟩ := HZ.out k
      generalize zs'.getD k 0 = z at *
      obtain ⟨m, hm6, hmz⟩ : ∃ m : Nat, m < 6 ∧ z % 6 = (m : Int) := ⟨(z % 6).toNat, by omega, by omega⟩
      have rz : z.tmod 6 = (m : Int) := (Int.tmod_eq_emod_of_nonneg z0).trans hmz
      have m0 : (0 : Int) ≤ (m : Int) := by omega
      have m1 : (m : Int) < 6 := by omega
      have c0 : V.cell? ⟨wr.heap.size, m, none⟩ = some (.string (aheadS m)) := (cells_of hVk).1 m _ (ahead_cell hm6)
      have hbl := ahead_len hm6
      have hs0 : (A ++ aheadS m).size ≤ 8 * (k + 1) := by rw [add_size]; omega
      have HBk : Hid (Blank (A ++ aheadS m)) := blank_app hA.out (ahead_blank hm6)
      have hs1 : ¬ 9223372036854775807 < A.size + (aheadS m).size := by omega
      have HS0 : Hid _ := hs0
      unfold aheadCells at hV
      clear hbl hmz hbs hVk hA hB hs0 hAs
      generalize aheadS m = u at *
      subst hV
      go_wp2_with fail
      exact ⟨⟨A ++ u, k + 1, rfl, by go_num, by omega, HS0.out, HBk, BV⟩, by simp [intOf]; omega⟩
    · obtain ⟨K, t, m, a, E, hT⟩ : ∃ K t m a E, nextT S (clampV S 0) = (K, t, m, a, E) := ⟨_, _, _, _, _, rfl⟩
      have hT2 := next_blank hA.out hT
      obtain ⟨-, ha2, ha3, -⟩ := nextT_more (clamp_le S 0) hT
      obtain ⟨q, hq⟩ : ∃ q : Int, q = ((A.size + a : Nat) : Int) := ⟨_, rfl⟩
      have hq' : (a : Int) + (A.size : Int) = q := by rw [hq]; omega
      have hs := HS.out
      have hs2 : ¬ 9223372036854775807 < A.size + S.size := by omega
      have q0 : (0 : Int) ≤ q := by omega
      have q1 : q ≤ 2000 := by omega
      have a0 : (0 : Int) ≤ (a : Int) := by omega
      have a1 : (a : Int) ≤ 960 := by omega
      have a2 : (0 : Int) ≤ (A.size : Int) := by omega
      have a3 : (A.size : Int) ≤ 96 := by omega
      have C1 : Hid _ := lNextF (w := wr) (S := S) (by omega) 0 ev (HV.out _ hB.out) HE.out hT
      have C2 : Hid (∀ W, Below w.heap.size w W → Calls Tryd.prog 16 #[.string (A ++ S), .int .i64 0] W fun e w' => e = .returned (.tuple #[.agg (tokC K t m q), .int .i64 ((A.size + E : Nat) : Int)]) ∧ Below W.heap.size W w') := fun W hb => by
        rw [hq]
        exact lNextF (w := W) (S := A ++ S) (by rw [add_size]; omega) 0 ev (HV.out _ hb) HE.out hT2
      have hb2 : (¬ (k : Int) < (n' : Int)) ∨ ((k : Int) < (n' : Int) ∧ ¬ (k : Int) < 12) := by omega
      clear hT hT2 ha2 ha3 hs hq hA hlt hAs hk
      rcases hb2 with k2 | ⟨k2, k1⟩
      all_goals
        (go_wp2_with fail
         refine Calls.mono C1.out ?_
         rintro e w2 ⟨rfl, b2⟩
         have B2 : Hid (Below w.heap.size w w2) := hB.out.trans (b2.mono hB.out.size)
         clear b2 C1 hB
         unfold tokC
         go_wp2_with fail
         obtain ⟨V1, hV1⟩ : ∃ V1, V1 = w2.alloc (.cells (tokC K t m a) 33) := ⟨_, rfl⟩
         have BV1 : Hid (Below w.heap.size w V1) := by rw [hV1]; exact B2.out.alloc B2.out.size _
         have K1 : Hid (V1.heap[w2.heap.size]? = some (.cells (tokC K t m a) 33)) := by rw [hV1]; exact alloc_at _ _
         unfold tokC at hV1
         rw [← hV1]
         clear hV1
         refine Calls.mono (C2.out _ BV1.out) ?_
         rintro e w3 ⟨rfl, b3⟩
         have K3 : Hid (w3.heap[w2.heap.size]? = some (.cells (tokC K t m a) 33)) := kept_on K1.out b3
         have B3 : Hid (Below w.heap.size w w3) := BV1.out.trans (b3.mono BV1.out.size)
         have hb23 : w2.heap.size < w3.heap.size := (Array.getElem?_eq_some_iff.1 K3.out).1
         clear b3 C2 K1 BV1
         obtain ⟨V3, hV3⟩ : ∃ V3, V3 = w3.alloc (.cells (tokC K t m q) 33) := ⟨_, rfl⟩
         have BV3 : Below w.heap.size w V3 := by rw [hV3]; exact B3.out.alloc B3.out.size _
         have KA : V3.heap[w2.heap.size]? = some (.cells (tokC K t m a) 33) := by rw [hV3]; exact kept_on K3.out ((Below.refl _ _).alloc (Nat.le_refl _) _)
         have KB : V3.heap[w3.heap.size]? = some (.cells (tokC K t m q) 33) := by rw [hV3]; exact alloc_at _ _
         obtain ⟨f1, f2, f3, f4, -, -, -, f8⟩ := tok_at KA
         obtain ⟨Y, hY, YA, YL⟩ := tok_shift KA q
         have YB : Y.heap[w3.heap.size]? = some (.cells (tokC K t m q) 33) := by rw [hY, Below.heap_setCell _ _ _ _ (Nat.ne_of_gt hb23)]; exact KB
         have BY : Hid (Below w.heap.size w Y) := by rw [hY]; exact BV3.setCell B2.out.size _
         obtain ⟨y1, y2, y3, y4, -, -, -, -⟩ := tok_at YA
         obtain ⟨x1, x2, x3, x4, -, -, -, -⟩ := tok_at YB
         clear YA YB YL KA KB BV3 K3 B3 hb23
         unfold tokC at hV3 ⊢
         subst hY
         subst hV3
         go_wp2_with fail
         refine Calls.mono (tAwake ev (HV.out _ BY.out) HE.out) ?_
         rintro e w4 ⟨rfl, b4⟩
         have B4 : Hid (Below w.heap.size w w4) := BY.out.trans (b4.mono BY.out.size)
         clear b4
         go_wp2_with fail
         go_ret
         exact ⟨rfl, B4.out⟩)
/-- In the form in which the frame opens what came in. -/
theorem lexBlanks (sa : Option Addr) (n cap : Nat) (zs : List Int) (a' : Option Addr) (n' cap' : Nat) (zs' : List Int) (w : World)
    (hz : (sa = none ∧ n = 0 ∧ cap = 0 ∧ zs = []) ∨ ∃ p, sa = some p ∧ n ≤ cap ∧ cap ≤ maxLen ∧ zs.length = cap ∧ (∀ i, i < zs.length → w.cell? (p.add i) = some (.int .u8 (zs.getD i 0))) ∧ ∀ z ∈ zs, (Lit.int .u8 z).wf = true)
    (hz' : (a' = none ∧ n' = 0 ∧ cap' = 0 ∧ zs' = []) ∨ ∃ p, a' = some p ∧ n' ≤ cap' ∧ cap' ≤ maxLen ∧ zs'.length = cap' ∧ (∀ i, i < zs'.length → w.cell? (p.add i) = some (.int .u8 (zs'.getD i 0))) ∧ ∀ z ∈ zs', (Lit.int .u8 z).wf = true)
    (he : ∃ ev, w.cell? ⟨1, 0, none⟩ = some ev ∧ (ev = .nilIface ∨ ∃ te pe, ev = .iface te pe)) :
    Calls Tryd.prog 7 #[.slice sa n cap, .slice a' n' cap'] w fun e w' => e = .returned (.bool true) ∧ Below w.heap.size w w' := by
  obtain ⟨b, off, h1, h2, h3⟩ := came_u8 hz
  obtain ⟨b', off', g1, g2, g3⟩ := came_u8 hz'
  obtain ⟨ev, hv, hev⟩ := he
  exact lexBlanks_way sa n cap zs a' n' cap' zs' w b off b' off' h1 h2 h3 g1 g2 g3 ev hv hev
end Go.Proofs.YtjgpojjbjgdfkaaDoor
