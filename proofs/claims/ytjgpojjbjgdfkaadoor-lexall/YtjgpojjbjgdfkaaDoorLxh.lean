/-
  The library's ParseUint at base sixteen and 32 bits, of digits alone: its own text walked.
-/
import Derived.Test.YtjgpojjbjgdfkaaDoorLxy
namespace Go.Proofs.YtjgpojjbjgdfkaaDoor
open Go.RowKit

def hexD (c : Nat) : Nat := if c ≤ 57 then c - 48 else c - 87
/-- The number of hex digits, or none if no 32 bits hold it. -/
def hexM : Nat → List UInt8 → Option Nat
  | acc, [] => some acc
  | acc, c :: l => if 4294967295 < acc * 16 + hexD c.toNat then none else hexM (acc * 16 + hexD c.toNat) l
def hexE : Option Nat → Value
  | some u => .tuple #[.int .u64 u, .nilIface]
  | none => .tuple #[.int .u64 4294967295, .iface 68 (.int .i64 1)]
def hexOk (c : Nat) : Prop := (48 ≤ c ∧ c ≤ 57) ∨ (97 ≤ c ∧ c ≤ 102)
theorem low_hex {c : Nat} (h0 : 97 ≤ c) (h1 : c ≤ 102) : bits .or .u8 (c : Int) 32 = c := by
  have : c = 97 ∨ c = 98 ∨ c = 99 ∨ c = 100 ∨ c = 101 ∨ c = 102 := by omega
  rcases this with rfl | rfl | rfl | rfl | rfl | rfl <;> decide
set_option maxHeartbeats 32000000 in
set_option maxRecDepth 100000 in
theorem pHex (t : ByteArray) (hne : t.size ≠ 0) (hmax : t.size ≤ 281474976710656) (hall : ∀ c ∈ t.data.toList, hexOk c.toNat) (w : World) :
    Calls Tryd.prog 46 #[.string t, .int .i64 16, .int .i64 32] w fun e w' => e = .returned (hexE (hexM 0 t.data.toList)) ∧ w' = Lib.bytesWorld w 5 t := by
  have hemp : t.toList.isEmpty = false := by
    rw [← decide_eq_emptyBytes]
    exact decide_eq_false (fun h => hne (by rw [h]; rfl))
  have hcv := Lib.run_convert_string_bytes (P := Tryd.prog) w 9 26 5 t (u := .string) (by kernel_rfl) (by kernel_rfl) (by kernel_rfl)
  have hB : ∀ j, j < t.size → (Lib.bytesWorld w 5 t).cell? ⟨w.heap.size, j, none⟩ = some (.int .u8 (t.data.toList.getD j 0).toNat) := fun j hj => Lib.bytesWorld_cell w 5 t j hj
  obtain ⟨W1, hW1⟩ : ∃ W1, W1 = Lib.bytesWorld w 5 t := ⟨_, rfl⟩
  rw [← hW1] at hcv hB ⊢
  clear hW1
  obtain ⟨bs, hL⟩ : ∃ bs, bs = t.data.toList := ⟨_, rfl⟩
  have hLn : bs.length = t.size := by rw [hL, Lib.size_eq]
  rw [← hL] at hB hall ⊢
  clear hL
  have hmv : IntKind.u64.wrap (IntKind.u64.wrap 4294967296 - 1) = 4294967295 := by
    rw [IntKind.wrap_u64, IntKind.wrap_u64]
    decide
  go_enter Tryd.func46, Tryd.ntmps46
  go_wp2
  go_loop [12, 13, 101] (fun vu vn vi => ∃ (k acc : Nat) (a : Int), vu = .bool false ∧ vn = .int .u64 a ∧ vi = .int .i64 k ∧ k ≤ t.size ∧ Hid (a = (acc : Int) ∧ acc ≤ 4294967295 ∧ hexM 0 bs = hexM acc (bs.drop k)))
    (fun _ _ vi => t.size - (intOf vi).toNat)
  case atStart => exact ⟨0, 0, 0, rfl, rfl, rfl, by omega, rfl, by omega, rfl⟩
  case round =>
    obtain ⟨k, acc, a, rfl, rfl, rfl, hk, hh⟩ := hrel
    obtain ⟨ha, hacc, hdec⟩ := hh.out
    clear hh
    have a0 : 0 ≤ a := by omega
    have a1 : a ≤ 4294967295 := by omega
    by_cases hkn : k < t.size
    · have hc := hB k hkn
      have hdrop : bs.drop k = bs[k]'(by omega) :: bs.drop (k + 1) := List.drop_eq_getElem_cons (by omega)
      have hget : bs.getD k 0 = bs[k]'(by omega) := by simp [List.getD, List.getElem?_eq_getElem (show k < bs.length by omega)]
      have hok := hall (bs[k]'(by omega)) (List.getElem_mem _)
      rw [hdrop] at hdec
      rw [hget] at hc
      generalize bs[k]'(by omega) = c at hc hdec hok
      have hc256 : c.toNat < 256 := c.toNat_lt
      clear hB hdrop hget hall
      have hcut : ¬ 1152921504606846976 ≤ a := by omega
      rcases hok with ⟨hd0, hd1⟩ | ⟨hd0, hd1⟩
      · have hD : hexD c.toNat = c.toNat - 48 := if_pos hd1
        by_cases hov : 4294967295 < acc * 16 + (c.toNat - 48)
        · have hF : hexM acc (c :: bs.drop (k + 1)) = none := by rw [hexM, hD, if_pos hov]
          rw [hF] at hdec
          have iov : 4294967295 < a * 16 + ((c.toNat : Int) - 48) := by omega
          have HD : Hid _ := hdec
          clear hacc hF hov ha hD hdec
          go_wp2
          go_ret2
          exact ⟨by rw [HD.out]; rfl, rfl⟩
        · have hF : hexM acc (c :: bs.drop (k + 1)) = hexM (acc * 16 + (c.toNat - 48)) (bs.drop (k + 1)) := by rw [hexM, hD, if_neg hov]
          have HN : Hid (a * 16 + ((c.toNat : Int) - 48) = ((acc * 16 + (c.toNat - 48) : Nat) : Int) ∧ acc * 16 + (c.toNat - 48) ≤ 4294967295 ∧ hexM 0 bs = hexM (acc * 16 + (c.toNat - 48)) (bs.drop (k + 1))) := ⟨by omega, by omega, by rw [hdec, hF]⟩
          have iov : a * 16 + ((c.toNat : Int) - 48) ≤ 4294967295 := by omega
          clear hacc hF hov hdec ha hD
          go_wp2
          refine ⟨⟨k + 1, acc * 16 + (c.toNat - 48), a * 16 + ((c.toNat : Int) - 48), rfl, (by first | rfl | (congr 1; omega)), (by first | rfl | (congr 1; omega)), by omega, HN⟩, by simp [intOf]; omega⟩
      · have hD : hexD c.toNat = c.toNat - 87 := if_neg (by omega)
        have CL : Hid (∀ w, Calls Tryd.prog 50 #[.int .u8 c.toNat] w fun e w' => e = .returned (.int .u8 c.toNat) ∧ w' = w) := fun w => by
          have := Tryd.internal_strconv_lower (c.toNat : Int) w
          rwa [low_hex hd0 hd1] at this
        by_cases hov : 4294967295 < acc * 16 + (c.toNat - 87)
        · have hF : hexM acc (c :: bs.drop (k + 1)) = none := by rw [hexM, hD, if_pos hov]
          rw [hF] at hdec
          have iov : 4294967295 < a * 16 + ((c.toNat : Int) - 97 + 10) := by omega
          have HD : Hid _ := hdec
          clear hacc hF hov ha hD hdec
          go_wp2_with fail
          refine Calls.mono (CL.out _) ?_
          rintro e w' ⟨rfl, rfl⟩
          go_wp2_with fail
          refine Calls.mono (CL.out _) ?_
          rintro e w' ⟨rfl, rfl⟩
          go_wp2_with fail
          refine Calls.mono (CL.out _) ?_
          rintro e w' ⟨rfl, rfl⟩
          go_wp2
          go_ret2
          exact ⟨by rw [HD.out]; rfl, rfl⟩
        · have hF : hexM acc (c :: bs.drop (k + 1)) = hexM (acc * 16 + (c.toNat - 87)) (bs.drop (k + 1)) := by rw [hexM, hD, if_neg hov]
          have HN : Hid (a * 16 + ((c.toNat : Int) - 97 + 10) = ((acc * 16 + (c.toNat - 87) : Nat) : Int) ∧ acc * 16 + (c.toNat - 87) ≤ 4294967295 ∧ hexM 0 bs = hexM (acc * 16 + (c.toNat - 87)) (bs.drop (k + 1))) := ⟨by omega, by omega, by rw [hdec, hF]⟩
          have iov : a * 16 + ((c.toNat : Int) - 97 + 10) ≤ 4294967295 := by omega
          clear hacc hF hov hdec ha hD
          go_wp2_with fail
          refine Calls.mono (CL.out _) ?_
          rintro e w' ⟨rfl, rfl⟩
          go_wp2_with fail
          refine Calls.mono (CL.out _) ?_
          rintro e w' ⟨rfl, rfl⟩
          go_wp2_with fail
          refine Calls.mono (CL.out _) ?_
          rintro e w' ⟨rfl, rfl⟩
          go_wp2
          refine ⟨⟨k + 1, acc * 16 + (c.toNat - 87), a * 16 + ((c.toNat : Int) - 97 + 10), rfl, (by first | rfl | (congr 1; omega)), (by first | rfl | (congr 1; omega)), by omega, HN⟩, by simp [intOf]; omega⟩
    · have hkk : k = t.size := by omega
      subst hkk
      have hF : hexM acc (bs.drop t.size) = some acc := by rw [List.drop_eq_nil_of_le (by omega)]; rfl
      rw [hF] at hdec
      subst ha
      have HD : Hid _ := hdec
      clear hacc hF a0 a1 hdec
      go_wp2
      go_ret2
      exact ⟨by rw [HD.out]; rfl, rfl⟩
end Go.Proofs.YtjgpojjbjgdfkaaDoor
