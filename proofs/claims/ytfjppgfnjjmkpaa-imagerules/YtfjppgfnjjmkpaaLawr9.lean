/-
  ImageRules.
-/
import Derived.Test.YtfjppgfnjjmkpaaLawra9
import Derived.Test.YtfjppgfnjjmkpaaLawrb9
import Derived.Test.YtfjppgfnjjmkpaaLawrc9
import Derived.Test.YtfjppgfnjjmkpaaLawrd9
import Derived.Test.YtfjppgfnjjmkpaaLawre9
import Derived.Test.YtfjppgfnjjmkpaaLawrf9
import Derived.Test.YtfjppgfnjjmkpaaLawrg9
namespace Go.Proofs.Ytfjppgfnjjmkpaa
open Go.RowKit

theorem imageRules (a0 : Int) (h0 : 0 ≤ a0 ∧ a0 ≤ 255) (w : World) : Calls Try.prog 5 #[.int .u8 a0] w fun e w' => e = .returned (.bool true) ∧ Below w.heap.size w w' := by
  have e : wrap64 a0 = a0 := by
    unfold wrap64
    omega
  have hb : 0 ≤ (wrap64 a0).tmod 26 ∧ (wrap64 a0).tmod 26 < 26 := by
    rw [e, Int.tmod_eq_emod_of_nonneg h0.1]
    omega
  obtain ⟨k, hk⟩ : ∃ k, (wrap64 a0).tmod 26 = k := ⟨_, rfl⟩
  rw [hk] at hb
  have hc : k = 0 ∨ k = 1 ∨ k = 2 ∨ k = 3 ∨ k = 4 ∨ k = 5 ∨ k = 6 ∨ k = 7 ∨ k = 8 ∨ k = 9 ∨ k = 10 ∨ k = 11 ∨ k = 12 ∨ k = 13 ∨ k = 14 ∨ k = 15 ∨ k = 16 ∨ k = 17 ∨ k = 18 ∨ k = 19 ∨ k = 20 ∨ k = 21 ∨ k = 22 ∨ k = 23 ∨ k = 24 ∨ k = 25 := by omega
  rcases hc with rfl | rfl | rfl | rfl | rfl | rfl | rfl | rfl | rfl | rfl | rfl | rfl | rfl | rfl | rfl | rfl | rfl | rfl | rfl | rfl | rfl | rfl | rfl | rfl | rfl | rfl
  · exact rule0 a0 hk w
  · exact rule1 a0 hk w
  · exact rule2 a0 hk w
  · exact rule3 a0 hk w
  · exact rule4 a0 hk w
  · exact rule5 a0 hk w
  · exact rule6 a0 hk w
  · exact rule7 a0 hk w
  · exact rule8 a0 hk w
  · exact rule9 a0 hk w
  · exact rule10 a0 hk w
  · exact rule11 a0 hk w
  · exact rule12 a0 hk w
  · exact rule13 a0 hk w
  · exact rule14 a0 hk w
  · exact rule15 a0 hk w
  · exact rule16 a0 hk w
  · exact rule17 a0 hk w
  · exact rule18 a0 hk w
  · exact rule19 a0 hk w
  · exact rule20 a0 hk w
  · exact rule21 a0 hk w
  · exact rule22 a0 hk w
  · exact rule23 a0 hk w
  · exact rule24 a0 hk w
  · exact rule25 a0 hk w
end Go.Proofs.Ytfjppgfnjjmkpaa
