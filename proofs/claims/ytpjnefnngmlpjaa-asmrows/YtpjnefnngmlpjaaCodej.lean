/-
  What joining pieces makes: the contract of the function that does it.
-/
import Derived.Test.YtpjnefnngmlpjaaCodeb
namespace Go.Proofs.Ytpjnefnngmlpjaa
open Go.RowKit

/-- Pieces written side by side, the highest first. -/
def joinV : List (Int × Int) → Int → Int
  | [], x => x
  | p :: l, x => joinV l (bits .or .u32 (x * 2 ^ p.2.toNat % 4294967296) p.1)

theorem joinV_snoc : ∀ (l : List (Int × Int)) (p : Int × Int) (x : Int), joinV (l ++ [p]) x = bits .or .u32 (joinV l x * 2 ^ p.2.toNat % 4294967296) p.1
  | [], _, _ => rfl
  | _ :: l, p, _ => joinV_snoc l p _
theorem joinV_u32 : ∀ (l : List (Int × Int)) (x : Int), U32 x → U32 (joinV l x)
  | [], _, h => h
  | _ :: l, _, _ => joinV_u32 l _ (bits_u32 _ _ _)

set_option maxHeartbeats 1000000 in
theorem cjoin (ps : List (Int × Int)) (b : Nat) (n : Nat) (hn : n = ps.length) (hl : n ≤ 8) (hp : ∀ p ∈ ps, 1 ≤ p.2 ∧ p.2 ≤ 32) (w : World)
    (hc : ∀ j p, ps[j]? = some p → w.cell? ⟨b, j * 2, none⟩ = some (.int .u32 p.1) ∧ w.cell? ⟨b, j * 2 + 1, none⟩ = some (.int .i64 p.2)) (hb : b < w.heap.size) :
    Calls Try.prog 104 #[.slice (some ⟨b, 0, none⟩) n n] w fun e w' => e = .returned (.int .u32 (joinV ps 0)) ∧ Below w.heap.size w w' := by
  have HN : Hid (n = ps.length) := hn
  clear hn
  go_enter Try.func104, Try.ntmps104
  go_wp2_with fail
  go_loopw [3, 8] (fun x i wr => ∃ k : Nat, k ≤ n ∧ i = .int .i64 k ∧ x = .int .u32 (joinV (ps.take k) 0) ∧ Hid (Below w.heap.size w wr)) (fun _ i _ => n - (intOf i).toNat)
  case atStart => exact ⟨0, Nat.zero_le _, rfl, rfl, Below.refl _ _⟩
  case round =>
    obtain ⟨k, hk, rfl, rfl, hbr⟩ := hrel
    by_cases hlt : k < n
    · obtain ⟨p, hpk⟩ : ∃ p, ps[k]? = some p := ⟨ps[k]'(by rw [← HN.out]; exact hlt), List.getElem?_eq_getElem (by rw [← HN.out]; exact hlt)⟩
      obtain ⟨c0, c1⟩ := hc k p hpk
      have d0 : wr.cell? ⟨b, k * 2, none⟩ = some (.int .u32 p.1) := by rw [hbr.out.cell (p := ⟨b, k * 2, none⟩) hb]; exact c0
      have d1 : wr.cell? ⟨b, k * 2 + 1, none⟩ = some (.int .i64 p.2) := by rw [hbr.out.cell (p := ⟨b, k * 2 + 1, none⟩) hb]; exact c1
      obtain ⟨q1, q2⟩ := hp p (List.mem_of_getElem? hpk)
      have hbr2 : b < wr.heap.size := Nat.lt_of_lt_of_le hb hbr.out.size
      have HV : Hid (joinV (ps.take (k + 1)) 0 = bits .or .u32 (joinV (ps.take k) 0 * 2 ^ p.2.toNat % 4294967296) p.1) := by
        show _ = _
        rw [List.take_add_one, hpk]
        exact joinV_snoc _ _ _
      generalize joinV (ps.take k) 0 = x at *
      clear c0 c1
      obtain ⟨v, m⟩ := p
      simp only at d0 d1 q1 q2 HV
      go_wp2_with fail
      go_region
      go_wp2_with fail
      refine ⟨⟨k + 1, hlt, by go_num, by rw [HV.out], ?_⟩, by simp [intOf]; omega⟩
      exact (hbr.out.alloc hbr.out.size _).drew
    · have hkn : k = n := by omega
      subst hkn
      have HX : Hid (joinV (ps.take k) 0 = joinV ps 0) := by
        show _ = _
        rw [HN.out, List.take_length]
      generalize joinV (ps.take k) 0 = x at *
      go_wp2
      go_ret
      exact ⟨ret_u32 HX.out, hbr.out⟩
end Go.Proofs.Ytpjnefnngmlpjaa
