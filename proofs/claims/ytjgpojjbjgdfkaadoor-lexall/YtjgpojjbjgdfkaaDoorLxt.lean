/-
  Package lex: text.
-/
import Derived.Test.YtjgpojjbjgdfkaaDoorLxs
import Derived.Test.YtjgpojjbjgdfkaaDoorShl
namespace Go.Proofs.YtjgpojjbjgdfkaaDoor
open Go.RowKit

theorem sClone (s : ByteArray) (h : s.size ≤ 281474976710656) (w : World) : Calls Tryd.prog 48 #[.string s] w fun e w' => e = .returned (.string s) ∧ Below w.heap.size w w' := by
  have C : Hid _ := Tryd.stringslite_Clone s w h
  go_enter Tryd.func48, Tryd.ntmps48
  go_wp2_with fail
  refine Calls.mono (C.out) ?_
  rintro e w1 ⟨rfl, hb⟩
  go_wp2
  go_ret
  exact ⟨rfl, hb⟩
theorem lText {w : World} {rb : Nat} {S : ByteArray} {m : Option Nat} (h : RdAt w rb S m) (hS : S.size ≤ 281474976710656) (p q : Nat) (hp : p ≤ q) (hq : q ≤ S.size) :
    Calls Tryd.prog 43 #[.pointer (some ⟨rb, 0, none⟩), .int .i64 p, .int .i64 q] w fun e w' => e = .returned (.string (S.extract p q)) ∧ Below w.heap.size w w' := by
  have C : Hid _ := sClone (S.extract p q) (by rw [ByteArray.size_extract]; omega)
  have c0 : w.cell? ⟨rb, 0, none⟩ = some (.string S) := (cells_of h).1 0 _ rfl
  have hm : (S.size : Int) ≤ 281474976710656 := by omega
  clear h hS
  go_enter Tryd.func43, Tryd.ntmps43
  go_wp2_with fail
  refine Calls.mono (C.out _) ?_
  rintro e w1 ⟨rfl, hb⟩
  go_wp2
  go_ret
  exact ⟨rfl, hb⟩
end Go.Proofs.YtjgpojjbjgdfkaaDoor
