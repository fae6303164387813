/-
  The list of forms that the code keeps, and what lies at each place of it: the contract of the function that tells it.
-/
import Derived.Test.YtpjnefnngmlpjaaCodeb
import Derived.Test.YtpjnefnngmlpjaaRefq
import Derived.Deep.MidRow
namespace Go.Proofs.Ytpjnefnngmlpjaa
open Go.RowKit

/-- The code's number of a kind's layout. -/
def lay9 (k : Int) : Int := if k = 82 then 0 else if k = 73 then 1 else if k = 83 then 2 else if k = 115 then 3 else if k = 66 then 4 else if k = 85 then 5 else if k = 74 then 6 else if k = 67 then 7 else 8
/-- The k-th form, as the code's five cells. -/
def rowC (k : Nat) : List Value := [.string (opAt k), .int .i64 (lay9 (formAt k).2.k), .int .u32 (formAt k).2.o, .int .u32 (formAt k).2.f, .int .u32 (formAt k).2.g]
def rowsC : Nat → List Value
  | 0 => []
  | k + 1 => rowsC k ++ rowC k
def fcells : List Value := rowsC 53

def zrows : Nat → List Value
  | 0 => []
  | k + 1 => zrows k ++ [.string ByteArray.empty, .int .i64 0, .int .u32 0, .int .u32 0, .int .u32 0]
def zcells : Array Value := (zrows 53).toArray
theorem zcells_size : zcells.size = 265 := by decide +kernel
theorem zeroF (w : World) : (zeroValue 166).run Try.prog w = .ok (.agg zcells) w := by kernel_rfl

set_option maxRecDepth 100000 in
theorem indexF (k : Nat) (h : k < 53) (w : World) : (Instr.index 166 (.agg fcells.toArray) (.int .i64 k)).run Try.prog w = .ok (.agg (rowC k).toArray) w := by
  have h' : k = 0 ∨ k = 1 ∨ k = 2 ∨ k = 3 ∨ k = 4 ∨ k = 5 ∨ k = 6 ∨ k = 7 ∨ k = 8 ∨ k = 9 ∨ k = 10 ∨ k = 11 ∨ k = 12 ∨ k = 13 ∨ k = 14 ∨ k = 15 ∨ k = 16 ∨ k = 17 ∨ k = 18 ∨ k = 19 ∨ k = 20 ∨ k = 21 ∨ k = 22 ∨ k = 23 ∨ k = 24 ∨ k = 25 ∨ k = 26 ∨ k = 27 ∨ k = 28 ∨ k = 29 ∨ k = 30 ∨ k = 31 ∨ k = 32 ∨ k = 33 ∨ k = 34 ∨ k = 35 ∨ k = 36 ∨ k = 37 ∨ k = 38 ∨ k = 39 ∨ k = 40 ∨ k = 41 ∨ k = 42 ∨ k = 43 ∨ k = 44 ∨ k = 45 ∨ k = 46 ∨ k = 47 ∨ k = 48 ∨ k = 49 ∨ k = 50 ∨ k = 51 ∨ k = 52 := by omega
  rcases h' with rfl | rfl | rfl | rfl | rfl | rfl | rfl | rfl | rfl | rfl | rfl | rfl | rfl | rfl | rfl | rfl | rfl | rfl | rfl | rfl | rfl | rfl | rfl | rfl | rfl | rfl | rfl | rfl | rfl | rfl | rfl | rfl | rfl | rfl | rfl | rfl | rfl | rfl | rfl | rfl | rfl | rfl | rfl | rfl | rfl | rfl | rfl | rfl | rfl | rfl | rfl | rfl | rfl <;> (show _ = _) <;> kernel_rfl

def rowVals : Nat → List Value
  | 0 => []
  | k + 1 => rowVals k ++ [.agg (rowC k).toArray]
theorem fcells_len : fcells.length = 265 := by decide +kernel
theorem fcells_size : fcells.toArray.size = 265 := by decide +kernel
theorem fcells_one : fcells.toArray.all (·.oneCell') = true := by decide +kernel
theorem infoF : (Try.prog.info? 166).map (·.size) = some 265 := by kernel_rfl
theorem undF : ∃ d, Try.prog.underlying 166 = some d ∧ d.isRow = true := ⟨.array 53 156, by kernel_rfl, rfl⟩

theorem there_new (w : World) : (w.alloc (.cells zcells 166)).there w.heap.size 0 265 := by
  intro j hj
  have hl : j < (zrows 53).length := by
    have := zcells_size
    unfold zcells at this
    simp only [List.size_toArray] at this
    omega
  constructor
  · have := cell_new w (zrows 53) 166 (0 + j) _ (by rw [Nat.zero_add]; exact List.getElem?_eq_getElem hl)
    unfold zcells
    rw [this]
    rfl
  · rw [frozen?_alloc_cells]
    simp [World.frozen?]
set_option maxRecDepth 100000 in
set_option maxHeartbeats 4000000 in
theorem cforms (w : World) :
    Calls Try.prog 100 #[] w fun e w' => e = .returned (.agg fcells.toArray) ∧ Below w.heap.size w w' := by
  go_enter Try.func100, Try.ntmps100
  refine wp_seq_k ?_
  intro K hK
  refine wp_region_list ?_
  refine wpList_take 1 ⟨(.pointer (some ⟨w.heap.size, 0, none⟩) :: List.replicate 54 undef).toArray, []⟩ (w.alloc (.cells zcells 166)) (by kernel_rfl) ?_
  refine hK _ _ ?_
  refine wp_seq_k ?_
  intro K2 hK2
  refine wp_region_list ?_
  have hth := there_new w
  have hbw : Below w.heap.size w (w.alloc (.cells zcells 166)) := (Below.refl _ _).alloc (Nat.le_refl _) _
  generalize w.alloc (.cells zcells 166) = w1 at *
  refine wpList_take 54 ⟨(Value.pointer (some ⟨w.heap.size, 0, none⟩) :: (rowVals 53 ++ [Value.agg fcells.toArray])).toArray, []⟩ w1 (by kernel_rfl) ?_
  refine wpList_store_mid rfl 166 (.tmp 0) (.tmp 54) rfl w.heap.size 0 fcells.toArray (by kernel_rfl) (by kernel_rfl) (by rw [fcells_size]; exact hth) (by rw [infoF, fcells_size]) fcells_one ?_
  refine hK2 _ _ ?_
  refine wp_ret ?_
  obtain ⟨d, hu, hd⟩ := undF
  have hra : (w1.setCells w.heap.size 0 fcells.toArray.toList).rangeAt w.heap.size 0 fcells := World.rangeAt_setCells_same _ _ _ _ (by rw [fcells_len]; exact hth)
  have hl := run_loadVar_mid (P := Try.prog) _ w.heap.size 0 166 fcells d hra hu hd (by rw [infoF, fcells_len])
  refine bodyPost_ret (v := .agg fcells.toArray) ?_ rfl ⟨rfl, below_setCells (Nat.le_refl _) _ _ _ hbw⟩
  exact results_cell Try.results100 rfl hl
end Go.Proofs.Ytpjnefnngmlpjaa
