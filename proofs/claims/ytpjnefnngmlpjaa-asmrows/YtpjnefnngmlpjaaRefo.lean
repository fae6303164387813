/-
  The names of all instructions, by the document: the contract of the function that tells them.
-/
import Derived.Test.YtpjnefnngmlpjaaRefr
import Derived.ArgAppend
import Derived.Laws.AppendOwn
namespace Go.Proofs.Ytpjnefnngmlpjaa
open Go.RowKit

def namesL : List Value := [Value.string { data := #[97, 100, 100] }, Value.string { data := #[115, 117, 98] }, Value.string { data := #[115, 108, 108] }, Value.string { data := #[115, 108, 116] }, Value.string { data := #[115, 108, 116, 117] }, Value.string { data := #[120, 111, 114] }, Value.string { data := #[115, 114, 108] }, Value.string { data := #[115, 114, 97] }, Value.string { data := #[111, 114] }, Value.string { data := #[97, 110, 100] }, Value.string { data := #[109, 117, 108] }, Value.string { data := #[109, 117, 108, 104] }, Value.string { data := #[109, 117, 108, 104, 115, 117] }, Value.string { data := #[109, 117, 108, 104, 117] }, Value.string { data := #[100, 105, 118] }, Value.string { data := #[100, 105, 118, 117] }, Value.string { data := #[114, 101, 109] }, Value.string { data := #[114, 101, 109, 117] }]
def moreL : List Value := [Value.string { data := #[97, 100, 100, 105] }, Value.string { data := #[115, 108, 116, 105] }, Value.string { data := #[115, 108, 116, 105, 117] }, Value.string { data := #[120, 111, 114, 105] }, Value.string { data := #[111, 114, 105] }, Value.string { data := #[97, 110, 100, 105] }, Value.string { data := #[115, 108, 108, 105] }, Value.string { data := #[115, 114, 108, 105] }, Value.string { data := #[115, 114, 97, 105] }, Value.string { data := #[108, 98] }, Value.string { data := #[108, 104] }, Value.string { data := #[108, 119] }, Value.string { data := #[108, 98, 117] }, Value.string { data := #[108, 104, 117] }, Value.string { data := #[106, 97, 108, 114] }, Value.string { data := #[115, 98] }, Value.string { data := #[115, 104] }, Value.string { data := #[115, 119] }, Value.string { data := #[98, 101, 113] }, Value.string { data := #[98, 110, 101] }, Value.string { data := #[98, 108, 116] }, Value.string { data := #[98, 103, 101] }, Value.string { data := #[98, 108, 116, 117] }, Value.string { data := #[98, 103, 101, 117] }, Value.string { data := #[108, 117, 105] }, Value.string { data := #[97, 117, 105, 112, 99] }, Value.string { data := #[106, 97, 108] }, Value.string { data := #[99, 115, 114, 114, 119] }, Value.string { data := #[99, 115, 114, 114, 115] }, Value.string { data := #[99, 115, 114, 114, 99] }, Value.string { data := #[101, 99, 97, 108, 108] }, Value.string { data := #[101, 98, 114, 101, 97, 107] }, Value.string { data := #[109, 114, 101, 116] }, Value.string { data := #[119, 102, 105] }, Value.string { data := #[102, 101, 110, 99, 101] }]
/-- The k-th name. -/
def opAt : Nat → ByteArray
  | 0 => { data := #[97, 100, 100] }
  | 1 => { data := #[115, 117, 98] }
  | 2 => { data := #[115, 108, 108] }
  | 3 => { data := #[115, 108, 116] }
  | 4 => { data := #[115, 108, 116, 117] }
  | 5 => { data := #[120, 111, 114] }
  | 6 => { data := #[115, 114, 108] }
  | 7 => { data := #[115, 114, 97] }
  | 8 => { data := #[111, 114] }
  | 9 => { data := #[97, 110, 100] }
  | 10 => { data := #[109, 117, 108] }
  | 11 => { data := #[109, 117, 108, 104] }
  | 12 => { data := #[109, 117, 108, 104, 115, 117] }
  | 13 => { data := #[109, 117, 108, 104, 117] }
  | 14 => { data := #[100, 105, 118] }
  | 15 => { data := #[100, 105, 118, 117] }
  | 16 => { data := #[114, 101, 109] }
  | 17 => { data := #[114, 101, 109, 117] }
  | 18 => { data := #[97, 100, 100, 105] }
  | 19 => { data := #[115, 108, 116, 105] }
  | 20 => { data := #[115, 108, 116, 105, 117] }
  | 21 => { data := #[120, 111, 114, 105] }
  | 22 => { data := #[111, 114, 105] }
  | 23 => { data := #[97, 110, 100, 105] }
  | 24 => { data := #[115, 108, 108, 105] }
  | 25 => { data := #[115, 114, 108, 105] }
  | 26 => { data := #[115, 114, 97, 105] }
  | 27 => { data := #[108, 98] }
  | 28 => { data := #[108, 104] }
  | 29 => { data := #[108, 119] }
  | 30 => { data := #[108, 98, 117] }
  | 31 => { data := #[108, 104, 117] }
  | 32 => { data := #[106, 97, 108, 114] }
  | 33 => { data := #[115, 98] }
  | 34 => { data := #[115, 104] }
  | 35 => { data := #[115, 119] }
  | 36 => { data := #[98, 101, 113] }
  | 37 => { data := #[98, 110, 101] }
  | 38 => { data := #[98, 108, 116] }
  | 39 => { data := #[98, 103, 101] }
  | 40 => { data := #[98, 108, 116, 117] }
  | 41 => { data := #[98, 103, 101, 117] }
  | 42 => { data := #[108, 117, 105] }
  | 43 => { data := #[97, 117, 105, 112, 99] }
  | 44 => { data := #[106, 97, 108] }
  | 45 => { data := #[99, 115, 114, 114, 119] }
  | 46 => { data := #[99, 115, 114, 114, 115] }
  | 47 => { data := #[99, 115, 114, 114, 99] }
  | 48 => { data := #[101, 99, 97, 108, 108] }
  | 49 => { data := #[101, 98, 114, 101, 97, 107] }
  | 50 => { data := #[109, 114, 101, 116] }
  | 51 => { data := #[119, 102, 105] }
  | _ => { data := #[102, 101, 110, 99, 101] }

theorem opAt_all (k : Nat) (h : k < 53) : (namesL ++ moreL)[k]? = some (.string (opAt k)) := by
  have h' : k = 0 ∨ k = 1 ∨ k = 2 ∨ k = 3 ∨ k = 4 ∨ k = 5 ∨ k = 6 ∨ k = 7 ∨ k = 8 ∨ k = 9 ∨ k = 10 ∨ k = 11 ∨ k = 12 ∨ k = 13 ∨ k = 14 ∨ k = 15 ∨ k = 16 ∨ k = 17 ∨ k = 18 ∨ k = 19 ∨ k = 20 ∨ k = 21 ∨ k = 22 ∨ k = 23 ∨ k = 24 ∨ k = 25 ∨ k = 26 ∨ k = 27 ∨ k = 28 ∨ k = 29 ∨ k = 30 ∨ k = 31 ∨ k = 32 ∨ k = 33 ∨ k = 34 ∨ k = 35 ∨ k = 36 ∨ k = 37 ∨ k = 38 ∨ k = 39 ∨ k = 40 ∨ k = 41 ∨ k = 42 ∨ k = 43 ∨ k = 44 ∨ k = 45 ∨ k = 46 ∨ k = 47 ∨ k = 48 ∨ k = 49 ∨ k = 50 ∨ k = 51 ∨ k = 52 := by omega
  rcases h' with rfl | rfl | rfl | rfl | rfl | rfl | rfl | rfl | rfl | rfl | rfl | rfl | rfl | rfl | rfl | rfl | rfl | rfl | rfl | rfl | rfl | rfl | rfl | rfl | rfl | rfl | rfl | rfl | rfl | rfl | rfl | rfl | rfl | rfl | rfl | rfl | rfl | rfl | rfl | rfl | rfl | rfl | rfl | rfl | rfl | rfl | rfl | rfl | rfl | rfl | rfl | rfl | rfl <;> rfl

theorem rNames (w : World) :
    Calls Try.prog 72 #[] w fun e w' => e = .returned (.slice (some ⟨w.heap.size, 0, none⟩) 18 18) ∧ w' = w.alloc (.cells namesL.toArray 9) := by
  go_enter Try.func72, Try.ntmps72
  go_wp2
  go_ret
  exact ⟨rfl, rfl⟩

theorem infoS : (Try.prog.info? 9).map (fun i => (i.zero, i.size, i.bytes)) = some (some (.string ByteArray.empty), 1, 16) := by kernel_rfl
set_option maxRecDepth 100000 in
set_option maxHeartbeats 2000000 in
theorem rOps (w : World) :
    Calls Try.prog 45 #[] w fun e w' => ∃ g cap, e = .returned (.slice (some ⟨g, 0, none⟩) 53 cap) ∧ w.heap.size ≤ g ∧ g < w'.heap.size ∧ Below w.heap.size w w' ∧ ∀ k, k < 53 → w'.cell? ⟨g, k, none⟩ = some (.string (opAt k)) := by
  obtain ⟨i0, hi, hz0, hz1, hz2⟩ := info_parts infoS
  go_enter Try.func45, Try.ntmps45
  go_wp2_with (first | (go_at_call 72; refine (rNames _).mono ?_; rintro e w' ⟨rfl, rfl⟩) | (at_builtin; refine wpList_append_grows _ rfl (.tmp 1) (.tmp 2) 36 rfl 9 i0 (.string ByteArray.empty) 1 16 Try.underlying36 hi hz0 hz1 hz2 rfl (by decide) (some ⟨w.heap.size, 0, none⟩) 18 18 namesL rfl (fun h => by cases h) rfl ?c0 ⟨w.heap.size + 1, 0, none⟩ 35 35 moreL rfl rfl ?c1 ?c2 (by omega) (by unfold maxLen; omega) (by omega) ?grow))
  case c0 =>
    intro b hb j u hj
    obtain rfl := Option.some.inj hb
    rw [Addr.add_lit, Nat.zero_add, World.cell?_alloc_lt _ _ _ (by simp)]
    exact cell_new _ _ _ _ _ hj
  case c1 =>
    intro j u hj
    have e : (w.alloc (.cells namesL.toArray 9)).heap.size = w.heap.size + 1 := by simp
    rw [Addr.add_lit, Nat.zero_add, ← e]
    exact cell_new _ _ _ _ _ hj
  case c2 =>
    have h : moreL.all (fun u => u.oneCell') = true := by rfl
    exact fun u hu => List.all_eq_true.mp h u hu
  case grow =>
    intro v' w' hown hgrow
    obtain ⟨hl, ⟨_, h0⟩ | ⟨g, cap, cur, rfl, hg, hh, h1, h2, h3, h4⟩⟩ := hown
    · omega
    go_wp2
    go_ret
    refine ⟨g, cap, rfl, by omega, ?_, (((Below.refl _ _).alloc (Nat.le_refl _) _).alloc (by simp) _).grown hgrow (by simp; omega) (fun k h => by cases h), ?_⟩
    · exact (Array.getElem?_eq_some_iff.mp hh).1
    · intro k hk
      have h5 := opAt_all k hk
      rw [← h4, List.getElem?_take_of_lt (by omega)] at h5
      simp [World.cell?, hh]
      simpa using h5
end Go.Proofs.Ytpjnefnngmlpjaa
