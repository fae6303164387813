/-
  How many names the code tells: the contract of its Ops.
-/
import Derived.Test.YtbdfaepljgajbaaCodez
namespace Go.Proofs.Ytbdfaepljgajbaa
open Go.RowKit

set_option maxRecDepth 100000 in
set_option maxHeartbeats 2000000 in
theorem cOps (w : World) :
    Calls Try.prog 17 #[] w fun e w' => ∃ ad cap, e = .returned (.slice ad 53 cap) ∧ Below w.heap.size w w' := by
  obtain ⟨i0, hi, hz0, hz1, hz2⟩ := info_parts infoS
  go_enter Try.func17, Try.ntmps17
  go_wp2_with fail
  refine (cforms _).mono ?_
  rintro e w1 ⟨rfl, hb1⟩
  have HI : Hid (∀ k, k < 53 → ∀ w, (Instr.index 69 (.agg fcells.toArray) (.int .i64 (k : Nat))).run Try.prog w = .ok (.agg (rowC k).toArray) w) := indexF
  have HB1 : Hid _ := hb1
  clear hb1
  generalize fcells.toArray = FC at *
  go_wp2_with fail
  go_loopw [1, 5] (fun lv i wr => ∃ (k : Nat) (xs : List Value), k ≤ 53 ∧ i = .int .i64 k ∧ Hid (Below w.heap.size w wr) ∧ Hid (wr.ownsRow w.heap.size 9 1 lv k xs)) (fun _ i _ => 53 - (intOf i).toNat)
  case atStart => exact ⟨0, [], Nat.zero_le _, rfl, HB1, ⟨rfl, Or.inl ⟨rfl, rfl⟩⟩⟩
  case round =>
    obtain ⟨k, xs, hk, rfl, hbr, hown⟩ := hrel
    have hws : w.heap.size ≤ wr.heap.size := hbr.out.size
    by_cases hlt : k < 53
    · have hi' := HI.out k hlt wr
      unfold rowC at hi'
      generalize lay9 (formAt k).2.k = la at *
      generalize (formAt k).2 = p at *
      go_wp2_with (at_builtin; refine wpList_append_own _ rfl _ _ 42 rfl w.heap.size 9 i0 (.string ByteArray.empty) 1 16 Try.underlying42 hi hz0 hz1 hz2 rfl (by decide) _ _ _ rfl ((hown.out.alloc _).alloc _) ⟨wr.heap.size + 1, 0, none⟩ 1 1 [.string (opAt k)] rfl rfl ?c1 ?c2 ?c3 ?c4 ?c5 ?_)
      case c1 =>
        intro j u hj
        have e : (wr.alloc (.cells #[.string (opAt k), .int .i64 la, .int .u32 p.o, .int .u32 p.f, .int .u32 p.g] 51)).heap.size = wr.heap.size + 1 := by simp
        rw [Addr.add_lit, Nat.zero_add, ← e]
        exact cell_new _ [.string (opAt k)] _ _ _ hj
      case c2 =>
        intro u hu
        simp only [List.mem_cons, List.not_mem_nil, or_false] at hu
        subst hu
        rfl
      case c3 => unfold maxLen; omega
      case c4 => omega
      case c5 => simp; omega
      intro v' w2 hown2 hgrow2 _
      go_wp2_with fail
      refine ⟨⟨k + 1, _, by omega, by go_num, ?_, hown2⟩, by simp [intOf]; omega⟩
      refine ((hbr.out.alloc hws _).alloc (by simp; omega) _).grown hgrow2 (by simp; omega) (fun b hb => ?_)
      obtain ⟨_, ⟨rfl, _⟩ | ⟨g, cap, cur, rfl, hg, _⟩⟩ := hown.out
      · cases hb
      · simp only [Value.ownBlock, Option.some.injEq] at hb
        omega
    · have hk53 : k = 53 := by omega
      subst hk53
      obtain ⟨_, ⟨rfl, h0⟩ | ⟨g, cap, cur, rfl, hg, _⟩⟩ := hown.out
      · omega
      · go_wp2
        go_ret
        exact ⟨_, _, rfl, hbr.out⟩
end Go.Proofs.Ytbdfaepljgajbaa
