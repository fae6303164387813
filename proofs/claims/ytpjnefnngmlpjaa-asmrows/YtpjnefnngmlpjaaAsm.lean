/-
  Package asm: item, of an instruction and of a number that is loaded.
-/
import Derived.Test.YtpjnefnngmlpjaaAsl
namespace Go.Proofs.Ytpjnefnngmlpjaa
open Go.RowKit

theorem low_of_below {wb : Nat} {w w' : World} (h : Below w.heap.size w w') (hl : wb ≤ w.heap.size) : Low wb w w' := fun _ _ hB hb => hb.trans (h.mono (by omega))
theorem WrAt.lt {w : World} {wb pb gb B n : Nat} {sf : Nat → Int} {wv sv : Value} {ws : List Int} {ss : List (ByteArray × Int)} (h : WrAt w wb pb gb B n sf wv sv ws ss) : wb ≤ w.heap.size := by
  have := h.wl
  have := h.bl
  omega
set_option maxRecDepth 100000 in
set_option maxHeartbeats 2000000 in
theorem aItemIns {w : World} {wb pb gb B n b off : Nat} {sa : Option Addr} {cap g gf : Nat} {base : Int} {xs : List It} {sf : Nat → Int} {wv sv : Value} {ws : List Int} {ss : List (ByteArray × Int)} (hp : ProgAt w pb b off sa cap g gf base xs) (hl : xs.length ≤ 1000000) (h : WrAt w wb pb gb B n sf wv sv ws ss) (hn : ws.length < 1000000000) (k : Nat) (x : It) (hx : xs[k]? = some x) (hk : x.kind = 2) :
    Calls Try.prog 55 #[.pointer (some ⟨wb, 0, none⟩), .int .i64 k] w fun e w' => e = .returned (.tuple #[]) ∧ ∃ wv', WrAt w' wb pb gb B n sf wv' sv (ws ++ [putN x.ins]) ss ∧ Low wb w w' := by
  have hkl : k < xs.length := (List.getElem?_eq_some_iff.1 hx).1
  have H0 : Hid _ := h
  have HN : Hid (ws.length < 1000000000) := hn
  have c1 := hp.slice
  have c2 : w.cell? ⟨wb, 0, none⟩ = some (.pointer (some ⟨pb, 0, none⟩)) := (cells_of h.blk).1 0 _ rfl
  obtain ⟨ea, hb⟩ := hp.its.at' (by omega)
  subst ea
  have HR : Hid _ := hp.its.row k x hx
  obtain ⟨fi, hfi⟩ := undIt
  have HFI : Hid _ := hfi
  have k0 : (0 : Int) ≤ (k : Int) := by omega
  have k1 : (k : Int) < (xs.length : Int) := by omega
  clear h hp hb hx hfi hn
  generalize xs.length = nx at *
  go_enter Try.func55, Try.ntmps55
  go_wp2_with (first | (refine wpList_mids (by rfl) 34 (.tmp 13) rfl b (off + k * 9) rfl x.cells _ HR.out HFI.out rfl (by rw [It.size]; exact infoIt) ?_) | (refine wpList_fill rfl 34 (.tmp 4) (.tmp 14) rfl rfl x.cells rfl 34 _ (by rw [It.size]; exact infoIt) (by rw [It.size]; rfl) (It.one x) ?_))
  intro V R BV
  obtain ⟨ic, _, _⟩ := cells_of R
  have d0 := ic 0 (.int .i64 x.kind) rfl
  have d2 := ic 2 (.string x.op) rfl
  have d3 := ic 3 (.int .i64 x.d) rfl
  have d4 := ic 4 (.int .i64 x.a) rfl
  have d5 := ic 5 (.int .i64 x.b) rfl
  have d6 := ic 6 (.int .i32 x.m) rfl
  have HB : Hid _ := BV
  have H1 : Hid _ := H0.out.below BV
  clear ic R BV HR HFI
  go_wp2_with fail
  refine (aPut H1.out (by have := HN.out; omega) _ _ _ _ _).mono ?_
  rintro e w1 ⟨rfl, v1, h1, l1⟩
  have H2 : Hid _ := h1
  have L1 : Hid _ := Low.trans (low_of_below HB.out H0.out.lt) l1
  clear h1 l1
  go_wp2
  go_end0
  exact ⟨rfl, v1, H2.out, L1.out⟩
set_option maxRecDepth 100000 in
set_option maxHeartbeats 2000000 in
theorem aItemLoad {w : World} {wb pb gb B n b off : Nat} {sa : Option Addr} {cap g gf : Nat} {base : Int} {xs : List It} {sf : Nat → Int} {wv sv : Value} {ws : List Int} {ss : List (ByteArray × Int)} (hp : ProgAt w pb b off sa cap g gf base xs) (hl : xs.length ≤ 1000000) (h : WrAt w wb pb gb B n sf wv sv ws ss) (hn : ws.length < 1000000000) (k : Nat) (x : It) (hx : xs[k]? = some x) (hk : x.kind = 5) (hu : U32 x.n) :
    Calls Try.prog 55 #[.pointer (some ⟨wb, 0, none⟩), .int .i64 k] w fun e w' => e = .returned (.tuple #[]) ∧ ∃ wv', WrAt w' wb pb gb B n sf wv' sv (ws ++ loadW x.d x.n) ss ∧ Low wb w w' := by
  have hkl : k < xs.length := (List.getElem?_eq_some_iff.1 hx).1
  have H0 : Hid _ := h
  have HN : Hid (ws.length < 1000000000) := hn
  have HU : Hid (U32 x.n) := hu
  have c1 := hp.slice
  have c2 : w.cell? ⟨wb, 0, none⟩ = some (.pointer (some ⟨pb, 0, none⟩)) := (cells_of h.blk).1 0 _ rfl
  obtain ⟨ea, hb⟩ := hp.its.at' (by omega)
  subst ea
  have HR : Hid _ := hp.its.row k x hx
  obtain ⟨fi, hfi⟩ := undIt
  have HFI : Hid _ := hfi
  have k0 : (0 : Int) ≤ (k : Int) := by omega
  have k1 : (k : Int) < (xs.length : Int) := by omega
  clear h hp hb hx hfi hn hu
  generalize xs.length = nx at *
  go_enter Try.func55, Try.ntmps55
  go_wp2_with (first | (refine wpList_mids (by rfl) 34 (.tmp 13) rfl b (off + k * 9) rfl x.cells _ HR.out HFI.out rfl (by rw [It.size]; exact infoIt) ?_) | (refine wpList_fill rfl 34 (.tmp 4) (.tmp 14) rfl rfl x.cells rfl 34 _ (by rw [It.size]; exact infoIt) (by rw [It.size]; rfl) (It.one x) ?_))
  intro V R BV
  obtain ⟨ic, _, _⟩ := cells_of R
  have d0 := ic 0 (.int .i64 x.kind) rfl
  have d3 := ic 3 (.int .i64 x.d) rfl
  have d7 := ic 7 (.int .u32 x.n) rfl
  have HB : Hid _ := BV
  have H1 : Hid _ := H0.out.below BV
  clear ic R BV HR HFI
  go_wp2_with fail
  refine (aLoad H1.out HN.out _ _ HU.out).mono ?_
  rintro e w1 ⟨rfl, v1, h1, l1⟩
  have H2 : Hid _ := h1
  have L1 : Hid _ := Low.trans (low_of_below HB.out H0.out.lt) l1
  clear h1 l1
  go_wp2
  go_end0
  exact ⟨rfl, v1, H2.out, L1.out⟩
end Go.Proofs.Ytpjnefnngmlpjaa
