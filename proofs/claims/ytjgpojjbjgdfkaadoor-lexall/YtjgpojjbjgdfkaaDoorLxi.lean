/-
  The library's strconv.ParseUint at 32 bits, of digits alone, at base ten and at base sixteen.
-/
import Derived.Test.YtjgpojjbjgdfkaaDoorLxh
namespace Go.Proofs.YtjgpojjbjgdfkaaDoor
open Go.RowKit

set_option maxHeartbeats 4000000 in
set_option maxRecDepth 100000 in
theorem puHexOk (t : ByteArray) (hne : t.size ≠ 0) (hmax : t.size ≤ 281474976710656) (hall : ∀ c ∈ t.data.toList, hexOk c.toNat) {u : Nat} (hu : hexM 0 t.data.toList = some u) (w : World) :
    Calls Tryd.prog 40 #[.string t, .int .i64 16, .int .i64 32] w fun e w' => e = .returned (.tuple #[.int .u64 u, .nilIface]) ∧ Below w.heap.size w w' := by
  have hI := pHex t hne hmax hall w
  rw [hu] at hI
  have CI : Hid _ := hI
  clear hI
  go_enter Tryd.func40, Tryd.ntmps40
  go_wp2_with fail
  refine Calls.mono CI.out ?_
  rintro e W1 ⟨rfl, rfl⟩
  unfold hexE
  have hb : Hid _ := Lib.bytesWorld_below w 5 t
  generalize Lib.bytesWorld w 5 t = W1 at *
  go_wp2
  go_ret2
  exact ⟨rfl, hb.out⟩
set_option maxHeartbeats 4000000 in
set_option maxRecDepth 100000 in
theorem puHexRange (t : ByteArray) (hne : t.size ≠ 0) (hmax : t.size ≤ 281474976710656) (hall : ∀ c ∈ t.data.toList, hexOk c.toNat) (hu : hexM 0 t.data.toList = none) (w : World) (ev : Value) (hv : w.cell? ⟨1, 0, none⟩ = some ev) (hev : ev = .nilIface ∨ ∃ te pe, ev = .iface te pe) :
    Calls Tryd.prog 40 #[.string t, .int .i64 16, .int .i64 32] w fun e w' => ∃ N, e = .returned (.tuple #[.int .u64 4294967295, .iface 71 (.pointer (some ⟨N, 0, none⟩))]) ∧ Below w.heap.size w w' := by
  have hI := pHex t hne hmax hall w
  rw [hu] at hI
  have CI : Hid _ := hI
  have hG : 1 < w.heap.size := Lib.lt_of_cell hv
  have hb : Hid _ := Lib.bytesWorld_below w 5 t
  have hv1 : Hid ((Lib.bytesWorld w 5 t).cell? ⟨1, 0, none⟩ = some ev) := (hb.out.cell (show (⟨1, 0, none⟩ : Addr).block < w.heap.size from hG)).trans hv
  clear hI hv
  go_enter Tryd.func40, Tryd.ntmps40
  go_wp2_with fail
  refine Calls.mono CI.out ?_
  clear CI
  generalize Lib.bytesWorld w 5 t = W1 at *
  rintro e W2 ⟨rfl, rfl⟩
  unfold hexE
  go_wp2_with fail
  refine Calls.mono (Tryd.strconv_toError_range ⟨#[80, 97, 114, 115, 101, 85, 105, 110, 116]⟩ t 16 32 ev _ hmax hv1.out hev) ?_
  rintro e W3 ⟨N, rfl, _, _, h3⟩
  go_wp2
  go_ret2
  exact ⟨N, rfl, hb.out.trans (h3.mono hb.out.size)⟩
end Go.Proofs.YtjgpojjbjgdfkaaDoor
