/-
  ImageTurned.
-/
import Derived.Test.YtfjppgfnjjmkpaaLawta9
import Derived.Test.YtfjppgfnjjmkpaaLawtb9
import Derived.Test.YtfjppgfnjjmkpaaLawtc9
import Derived.Test.YtfjppgfnjjmkpaaLawtd9
import Derived.Test.YtfjppgfnjjmkpaaLawte9
import Derived.Test.YtfjppgfnjjmkpaaLawtf9
namespace Go.Proofs.Ytfjppgfnjjmkpaa
open Go.RowKit

theorem imageTurned (a0 a1 a2 a3 : Int) (h0 : 0 ≤ a0 ∧ a0 ≤ 255) (h1 : 0 ≤ a1 ∧ a1 ≤ 255) (h2 : 0 ≤ a2 ∧ a2 ≤ 255) (h3 : U32 a3) (w : World) :
    Calls Try.prog 4 #[.int .u8 a0, .int .u8 a1, .int .u8 a2, .int .u32 a3] w fun e w' => e = .returned (.bool true) ∧ Below w.heap.size w w' := by
  have e : wrap64 a0 = a0 := by
    unfold wrap64
    omega
  obtain ⟨N, hN, hN8⟩ : ∃ N : Nat, (wrap64 a0).tmod 8 + 1 = (N : Int) ∧ (1 ≤ N ∧ N ≤ 8) := by
    rw [e, Int.tmod_eq_emod_of_nonneg h0.1]
    exact ⟨(a0 % 8 + 1).toNat, by omega, by omega⟩
  have hN0 : (0 : Int) < (N : Int) := by omega
  have q0 := Int.emod_nonneg a2 (show (N : Int) ≠ 0 by omega)
  have q1 := Int.emod_lt_of_pos a2 hN0
  obtain ⟨Q, hQ, hQN⟩ : ∃ Q : Nat, a2.tmod (N : Int) = (Q : Int) ∧ Q < N := by
    rw [Int.tmod_eq_emod_of_nonneg h2.1]
    exact ⟨(a2 % (N : Int)).toNat, by omega, by omega⟩
  have hb : 0 ≤ a1.tmod 15 ∧ a1.tmod 15 < 15 := by
    rw [Int.tmod_eq_emod_of_nonneg h1.1]
    omega
  obtain ⟨k, hk⟩ : ∃ k, a1.tmod 15 = k := ⟨_, rfl⟩
  rw [hk] at hb
  have hc : k = 0 ∨ k = 1 ∨ k = 2 ∨ k = 3 ∨ k = 4 ∨ k = 5 ∨ k = 6 ∨ k = 7 ∨ k = 8 ∨ k = 9 ∨ k = 10 ∨ k = 11 ∨ k = 12 ∨ k = 13 ∨ k = 14 := by omega
  rcases hc with rfl | rfl | rfl | rfl | rfl | rfl | rfl | rfl | rfl | rfl | rfl | rfl | rfl | rfl | rfl
  · exact turn0 a0 a1 a2 a3 N Q hN8 hN h2 hQ hQN h3 hk w
  · exact turn1 a0 a1 a2 a3 N Q hN8 hN h2 hQ hQN h3 hk w
  · exact turn2 a0 a1 a2 a3 N Q hN8 hN h2 hQ hQN h3 hk w
  · exact turn3 a0 a1 a2 a3 N Q hN8 hN h2 hQ hQN h3 hk w
  · exact turn4 a0 a1 a2 a3 N Q hN8 hN h2 hQ hQN h3 hk w
  · exact turn5 a0 a1 a2 a3 N Q hN8 hN h2 hQ hQN h3 hk w
  · exact turn6 a0 a1 a2 a3 N Q hN8 hN h2 hQ hQN h3 hk w
  · exact turn7 a0 a1 a2 a3 N Q hN8 hN h2 hQ hQN h3 hk w
  · exact turn8 a0 a1 a2 a3 N Q hN8 hN h2 hQ hQN h3 hk w
  · exact turn9 a0 a1 a2 a3 N Q hN8 hN h2 hQ hQN h3 hk w
  · exact turn10 a0 a1 a2 a3 N Q hN8 hN h2 hQ hQN h3 hk w
  · exact turn11 a0 a1 a2 a3 N Q hN8 hN h2 hQ hQN h3 hk w
  · exact turn12 a0 a1 a2 a3 N Q hN8 hN h2 hQ hQN h3 hk w
  · exact turn13 a0 a1 a2 a3 N Q hN8 hN h2 hQ hQN h3 hk w
  · exact turn14 a0 a1 a2 a3 N Q hN8 hN h2 hQ hQN h3 hk w
end Go.Proofs.Ytfjppgfnjjmkpaa
