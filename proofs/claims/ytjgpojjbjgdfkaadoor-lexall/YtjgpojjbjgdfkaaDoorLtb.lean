/-
  footmanlaw10: awake, bits, Text.
-/
import Derived.Test.YtjgpojjbjgdfkaaDoorLxp
import Derived.KernelRfl
namespace Go.Proofs.YtjgpojjbjgdfkaaDoor
open Go.RowKit

def xOne : ByteArray := ⟨#[120, 49]⟩
def selS : ByteArray := ⟨#[115, 101, 108]⟩
set_option maxRecDepth 100000 in
theorem next_xOne : nextT xOne (clampV xOne 0) = (2, xOne, 0, 0, 2) := by kernel_rfl
theorem word_sel : isWordV selS = true := by kernel_rfl
theorem name_sel : isNameV selS = false := by kernel_rfl
set_option maxRecDepth 100000 in
set_option maxHeartbeats 4000000 in
theorem tAwake {w : World} (ev : Value) (hv : w.cell? ⟨1, 0, none⟩ = some ev) (hev : ev = .nilIface ∨ ∃ te pe, ev = .iface te pe) :
    Calls Tryd.prog 8 #[] w fun e w' => e = .returned (.bool true) ∧ Below w.heap.size w w' := by
  have hlt : 1 < w.heap.size := Lib.lt_of_cell hv
  have C1 : Hid _ := lNextF (w := w) (S := xOne) (by show 2 ≤ _; decide) 0 ev hv hev next_xOne
  have C2 : Hid (∀ W, Below w.heap.size w W → Calls Tryd.prog 10 #[.string selS] W fun e w' => e = .returned (.bool (isWordV selS)) ∧ w' = W) := fun W _ => lIsWord selS W
  have C3 : Hid (∀ W, Below w.heap.size w W → Calls Tryd.prog 12 #[.string selS] W fun e w' => e = .returned (.bool (isNameV selS)) ∧ Below W.heap.size W w') := fun W hb => lIsName (by show 3 ≤ _; decide) ev ((hb.cell (p := ⟨1, 0, none⟩) hlt).trans hv) hev
  rw [word_sel] at C2
  rw [name_sel] at C3
  clear hv
  unfold xOne at C1
  unfold selS at C2 C3
  go_enter Tryd.func8, Tryd.ntmps8
  go_wp2_with fail
  refine Calls.mono C1.out ?_
  rintro e w1 ⟨rfl, b1⟩
  have B1 : Hid _ := b1
  clear b1 C1
  unfold tokC
  go_wp2_with fail
  obtain ⟨W, hW⟩ : ∃ W, W = w1.alloc (.cells (tokC 2 ⟨#[120, 49]⟩ 0 0) 33) := ⟨_, rfl⟩
  have hWb : Below w.heap.size w W := by rw [hW]; exact B1.out.alloc B1.out.size _
  have hWk : W.heap[w1.heap.size]? = some (.cells (tokC 2 ⟨#[120, 49]⟩ 0 0) 33) := by rw [hW]; exact alloc_at _ _
  obtain ⟨y1, y2, y3, y4, -, -, -, -⟩ := tok_at hWk
  unfold tokC at hW
  rw [← hW]
  have HB : Hid _ := hWb
  clear hWb hWk hW
  go_wp2_with fail
  refine Calls.mono (C2.out _ HB.out) ?_
  rintro e w2 ⟨rfl, hw2⟩
  rw [hw2]
  clear hw2 w2
  have HB2 := HB
  go_wp2_with fail
  refine Calls.mono (C3.out _ HB2.out) ?_
  rintro e w3 ⟨rfl, b3⟩
  have HB3 : Hid (Below w.heap.size w w3) := HB2.out.trans (b3.mono HB2.out.size)
  clear b3
  go_wp2_with fail
  go_ret
  exact ⟨rfl, HB3.out⟩

def bitL : List (List UInt8) := [[116, 97, 115, 107], [105, 110, 112, 117, 116], [112, 117, 98, 108, 105, 99], [115, 101, 99, 114, 101, 116], [107, 101, 121], [105, 102], [101, 108, 115, 101], [102, 111, 114], [105, 110], [115, 101, 110, 100], [114, 101, 99, 118], [111, 117, 116], [104, 97, 108, 116], [115, 101, 108], [97], [98, 49], [95, 120], [90, 101, 100], [48], [55], [52, 50], [48, 48, 55], [48, 120, 49, 102], [48, 120, 102, 102, 102, 102, 102, 102, 102, 102], [48, 120, 49, 48, 48, 48, 48, 48, 48, 48, 48], [52, 50, 57, 52, 57, 54, 55, 50, 57, 53], [52, 50, 57, 52, 57, 54, 55, 50, 57, 54], [48, 120], [48, 120, 71], [51, 120], [123], [125], [40], [41], [91], [93], [59], [44], [61], [61, 61], [33, 61], [60], [60, 61], [62], [62, 61], [60, 60], [62, 62], [43], [45], [42], [47], [37], [38], [94], [124], [126], [33], [35], [35, 32, 110, 111, 116, 101, 10], [32], [10], [9], [13], [36], [128]]
def bitS (k : Nat) : ByteArray := ⟨(bitL.getD k []).toArray⟩
def bitCells : Array Value := ((List.range 65).map fun k => Value.string (bitS k)).toArray
set_option maxRecDepth 100000 in
set_option maxHeartbeats 4000000 in
theorem tBits (w : World) : Calls Tryd.prog 21 #[] w fun e w' => e = .returned (.slice (some ⟨w.heap.size, 0, none⟩) 65 65) ∧ w'.heap[w.heap.size]? = some (.cells bitCells 9) ∧ Below w.heap.size w w' := by
  go_enter Tryd.func21, Tryd.ntmps21
  go_wp2
  go_ret
  exact ⟨rfl, alloc_at _ _, (Below.refl _ _).alloc (Nat.le_refl _) _⟩
theorem bit_cell {k : Nat} (h : k < 65) : bitCells[k]? = some (.string (bitS k)) := by
  unfold bitCells
  simp [h]
theorem bit_len {k : Nat} (h : k < 65) : (bitS k).size ≤ 11 := by
  have : ∀ k : Fin 65, (bitS k.val).size ≤ 11 := by decide
  exact this ⟨k, h⟩
theorem add_size (a b : ByteArray) : (a ++ b).size = a.size + b.size := ByteArray.size_append
set_option maxRecDepth 100000 in
set_option maxHeartbeats 4000000 in
theorem tText (sa : Option Addr) (n cap : Nat) (zs : List Int) (w : World) (b off : Nat) (ha : 0 < n → sa = some ⟨b, off, none⟩ ∧ b < w.heap.size) (hc : ∀ i, i < n → w.cell? ⟨b, off + i, none⟩ = some (.int .u8 (zs.getD i 0))) (hz : ∀ i, 0 ≤ zs.getD i 0 ∧ zs.getD i 0 ≤ 255) :
    Calls Tryd.prog 14 #[.slice sa n cap] w fun e w' => ∃ t : ByteArray, e = .returned (.string t) ∧ t.size ≤ 960 ∧ Below w.heap.size w w' := by
  have HA : Hid _ := ha
  have HC : Hid _ := hc
  have HZ : Hid _ := hz
  have C : Hid _ := tBits w
  have n0 : (0 : Int) ≤ (n : Int) := by omega
  clear ha hc hz
  go_enter Tryd.func14, Tryd.ntmps14
  go_wp2_with fail
  refine Calls.mono C.out ?_
  rintro e W ⟨rfl, hk, hb⟩
  have HK : Hid (W.heap[w.heap.size]? = some (.cells bitCells 9)) := hk
  have HB : Hid (Below w.heap.size w W) := hb
  clear hk hb C
  go_wp2_with fail
  go_loopw [4, 5] (fun x y wr => ∃ (t : ByteArray) (k : Nat), wr = W ∧ k ≤ 80 ∧ x = .string t ∧ y = .int .i64 k ∧ t.size ≤ 12 * k) (fun _ y _ => 80 - (intOf y).toNat)
  case atStart => exact ⟨⟨#[]⟩, 0, rfl, by omega, rfl, rfl, by decide⟩
  case round =>
    obtain ⟨t, k, rfl, hk, rfl, rfl, ht⟩ := hrel
    have k0 : (0 : Int) ≤ (k : Int) := by omega
    have HT : Hid _ := ht
    clear ht
    by_cases hlt : k < 80 ∧ k < n
    · obtain ⟨h80, hn⟩ := hlt
      have k1 : (k : Int) < 80 := by omega
      have k2 : (k : Int) < (n : Int) := by omega
      obtain ⟨rfl, hbs⟩ := HA.out (by omega)
      have cz : wr.cell? ⟨b, off + k, none⟩ = some (.int .u8 (zs.getD k 0)) := (HB.out.cell (p := ⟨b, off + k, none⟩) hbs).trans (HC.out k hn)
      obtain ⟨z0, z1⟩ := HZ.out k
      generalize zs.getD k 0 = z at *
      obtain ⟨m, hm65, hmz⟩ : ∃ m : Nat, m < 65 ∧ z % 65 = (m : Int) := ⟨(z % 65).toNat, by omega, by omega⟩
      have rz : z.tmod 65 = (m : Int) := (Int.tmod_eq_emod_of_nonneg z0).trans hmz
      have m0 : (0 : Int) ≤ (m : Int) := by omega
      have m1 : (m : Int) < 65 := by omega
      have c0 : wr.cell? ⟨w.heap.size, m, none⟩ = some (.string (bitS m)) := (cells_of HK.out).1 m _ (bit_cell hm65)
      have hbl := bit_len hm65
      have HL : Hid ((t ++ bitS m).size ≤ 12 * k + 11) := by
        show _ ≤ _
        rw [add_size]
        have := HT.out
        omega
      have hs1 : ¬ 9223372036854775807 < t.size + (bitS m).size := by
        have := HT.out
        omega
      have hs2 : ¬ 9223372036854775807 < (t ++ bitS m).size + (ByteArray.mk #[32]).size := by
        have h1 := HL.out
        have h2 : (ByteArray.mk #[32]).size = 1 := rfl
        omega
      clear hbl hmz hbs
      generalize bitS m = u at *
      by_cases h128 : 128 ≤ z
      · go_wp2_with fail
        exact ⟨⟨(t ++ u) ++ ⟨#[32]⟩, k + 1, trivial, by omega, rfl, by go_num, by have := HL.out; rw [add_size]; show _ + 1 ≤ _; omega⟩, by simp [intOf]; omega⟩
      · go_wp2_with fail
        exact ⟨⟨t ++ u, k + 1, trivial, by omega, rfl, by go_num, by have := HL.out; omega⟩, by simp [intOf]; omega⟩
    · by_cases hn : k < n
      · have k2 : (k : Int) < (n : Int) := by omega
        have k1 : ¬ (k : Int) < 80 := by omega
        go_wp2_with fail
        go_ret
        exact ⟨t, rfl, by have := HT.out; omega, HB.out⟩
      · have k2 : ¬ (k : Int) < (n : Int) := by omega
        go_wp2_with fail
        go_ret
        exact ⟨t, rfl, by have := HT.out; omega, HB.out⟩
end Go.Proofs.YtjgpojjbjgdfkaaDoor
