/-
  Registers are what they are.
-/
import Derived.Test.YtmmaoncgfmfbjaaCsv
import Derived.Laws.StructEq
namespace Go.Proofs.Ytmmaoncgfmfbjaa
open Go.RowKit

theorem und_32 : Try.prog.underlying 24 = some (.array 32 23) := by kernel_rfl
set_option maxRecDepth 100000 in
set_option maxHeartbeats 4000000 in
theorem eqA32 (f : Nat → Int) (w : World) : (Op.equalIn 9999 24 (.agg #[.int .u32 (f 0), .int .u32 (f 1), .int .u32 (f 2), .int .u32 (f 3), .int .u32 (f 4), .int .u32 (f 5), .int .u32 (f 6), .int .u32 (f 7), .int .u32 (f 8), .int .u32 (f 9), .int .u32 (f 10), .int .u32 (f 11), .int .u32 (f 12), .int .u32 (f 13), .int .u32 (f 14), .int .u32 (f 15), .int .u32 (f 16), .int .u32 (f 17), .int .u32 (f 18), .int .u32 (f 19), .int .u32 (f 20), .int .u32 (f 21), .int .u32 (f 22), .int .u32 (f 23), .int .u32 (f 24), .int .u32 (f 25), .int .u32 (f 26), .int .u32 (f 27), .int .u32 (f 28), .int .u32 (f 29), .int .u32 (f 30), .int .u32 (f 31)]) (.agg #[.int .u32 (f 0), .int .u32 (f 1), .int .u32 (f 2), .int .u32 (f 3), .int .u32 (f 4), .int .u32 (f 5), .int .u32 (f 6), .int .u32 (f 7), .int .u32 (f 8), .int .u32 (f 9), .int .u32 (f 10), .int .u32 (f 11), .int .u32 (f 12), .int .u32 (f 13), .int .u32 (f 14), .int .u32 (f 15), .int .u32 (f 16), .int .u32 (f 17), .int .u32 (f 18), .int .u32 (f 19), .int .u32 (f 20), .int .u32 (f 21), .int .u32 (f 22), .int .u32 (f 23), .int .u32 (f 24), .int .u32 (f 25), .int .u32 (f 26), .int .u32 (f 27), .int .u32 (f 28), .int .u32 (f 29), .int .u32 (f 30), .int .u32 (f 31)])).run Try.prog w = .ok true w := by
  have u3 := Try.underlying23
  have a3 := Try.isAgg23
  have z3 := Try.sizeOf23
  rw [show (9999 : Nat) = 9998 + 1 from rfl, Op.equalIn]
  simp only [Sem.run_bind, run_underlying und_32, Result.andThen_ok]
  simp only [Std.Legacy.Range.forIn_eq_forIn_range', Std.Legacy.Range.size, Nat.sub_zero, Nat.add_sub_cancel, Nat.div_one, List.range'_succ, List.range'_zero, List.forIn_cons, List.forIn_nil]
  go_simp

theorem und_16 : Try.prog.underlying 25 = some (.array 16 23) := by kernel_rfl
set_option maxRecDepth 100000 in
set_option maxHeartbeats 4000000 in
theorem eqA16 (f : Nat → Int) (w : World) : (Op.equalIn 9999 25 (.agg #[.int .u32 (f 0), .int .u32 (f 1), .int .u32 (f 2), .int .u32 (f 3), .int .u32 (f 4), .int .u32 (f 5), .int .u32 (f 6), .int .u32 (f 7), .int .u32 (f 8), .int .u32 (f 9), .int .u32 (f 10), .int .u32 (f 11), .int .u32 (f 12), .int .u32 (f 13), .int .u32 (f 14), .int .u32 (f 15)]) (.agg #[.int .u32 (f 0), .int .u32 (f 1), .int .u32 (f 2), .int .u32 (f 3), .int .u32 (f 4), .int .u32 (f 5), .int .u32 (f 6), .int .u32 (f 7), .int .u32 (f 8), .int .u32 (f 9), .int .u32 (f 10), .int .u32 (f 11), .int .u32 (f 12), .int .u32 (f 13), .int .u32 (f 14), .int .u32 (f 15)])).run Try.prog w = .ok true w := by
  have u3 := Try.underlying23
  have a3 := Try.isAgg23
  have z3 := Try.sizeOf23
  rw [show (9999 : Nat) = 9998 + 1 from rfl, Op.equalIn]
  simp only [Sem.run_bind, run_underlying und_16, Result.andThen_ok]
  simp only [Std.Legacy.Range.forIn_eq_forIn_range', Std.Legacy.Range.size, Nat.sub_zero, Nat.add_sub_cancel, Nat.div_one, List.range'_succ, List.range'_zero, List.forIn_cons, List.forIn_nil]
  go_simp

theorem part_X (f : Nat → Int) (u : Bool) (w : World) : (part 24 #[.int .u32 (f 0), .int .u32 (f 1), .int .u32 (f 2), .int .u32 (f 3), .int .u32 (f 4), .int .u32 (f 5), .int .u32 (f 6), .int .u32 (f 7), .int .u32 (f 8), .int .u32 (f 9), .int .u32 (f 10), .int .u32 (f 11), .int .u32 (f 12), .int .u32 (f 13), .int .u32 (f 14), .int .u32 (f 15), .int .u32 (f 16), .int .u32 (f 17), .int .u32 (f 18), .int .u32 (f 19), .int .u32 (f 20), .int .u32 (f 21), .int .u32 (f 22), .int .u32 (f 23), .int .u32 (f 24), .int .u32 (f 25), .int .u32 (f 26), .int .u32 (f 27), .int .u32 (f 28), .int .u32 (f 29), .int .u32 (f 30), .int .u32 (f 31), .int .u32 (f 32), .bool u, .int .u32 (f 34), .int .u32 (f 35), .int .u32 (f 36), .int .u32 (f 37), .int .u32 (f 38), .int .u32 (f 39), .int .u32 (f 40), .int .u32 (f 41), .int .u32 (f 42), .int .u32 (f 43), .int .u32 (f 44), .int .u32 (f 45), .int .u32 (f 46), .int .u32 (f 47), .int .u32 (f 48), .int .u32 (f 49), .int .u32 (f 50), .int .u32 (f 51), .int .u32 (f 52), .int .u32 (f 53), .int .u32 (f 54), .int .u32 (f 55), .int .u32 (f 56)] 0).run Try.prog w = .ok (.agg #[.int .u32 (f 0), .int .u32 (f 1), .int .u32 (f 2), .int .u32 (f 3), .int .u32 (f 4), .int .u32 (f 5), .int .u32 (f 6), .int .u32 (f 7), .int .u32 (f 8), .int .u32 (f 9), .int .u32 (f 10), .int .u32 (f 11), .int .u32 (f 12), .int .u32 (f 13), .int .u32 (f 14), .int .u32 (f 15), .int .u32 (f 16), .int .u32 (f 17), .int .u32 (f 18), .int .u32 (f 19), .int .u32 (f 20), .int .u32 (f 21), .int .u32 (f 22), .int .u32 (f 23), .int .u32 (f 24), .int .u32 (f 25), .int .u32 (f 26), .int .u32 (f 27), .int .u32 (f 28), .int .u32 (f 29), .int .u32 (f 30), .int .u32 (f 31)]) w := by kernel_rfl
theorem part_G (f : Nat → Int) (u : Bool) (w : World) : (part 25 #[.int .u32 (f 0), .int .u32 (f 1), .int .u32 (f 2), .int .u32 (f 3), .int .u32 (f 4), .int .u32 (f 5), .int .u32 (f 6), .int .u32 (f 7), .int .u32 (f 8), .int .u32 (f 9), .int .u32 (f 10), .int .u32 (f 11), .int .u32 (f 12), .int .u32 (f 13), .int .u32 (f 14), .int .u32 (f 15), .int .u32 (f 16), .int .u32 (f 17), .int .u32 (f 18), .int .u32 (f 19), .int .u32 (f 20), .int .u32 (f 21), .int .u32 (f 22), .int .u32 (f 23), .int .u32 (f 24), .int .u32 (f 25), .int .u32 (f 26), .int .u32 (f 27), .int .u32 (f 28), .int .u32 (f 29), .int .u32 (f 30), .int .u32 (f 31), .int .u32 (f 32), .bool u, .int .u32 (f 34), .int .u32 (f 35), .int .u32 (f 36), .int .u32 (f 37), .int .u32 (f 38), .int .u32 (f 39), .int .u32 (f 40), .int .u32 (f 41), .int .u32 (f 42), .int .u32 (f 43), .int .u32 (f 44), .int .u32 (f 45), .int .u32 (f 46), .int .u32 (f 47), .int .u32 (f 48), .int .u32 (f 49), .int .u32 (f 50), .int .u32 (f 51), .int .u32 (f 52), .int .u32 (f 53), .int .u32 (f 54), .int .u32 (f 55), .int .u32 (f 56)] 41).run Try.prog w = .ok (.agg #[.int .u32 (f 41), .int .u32 (f 42), .int .u32 (f 43), .int .u32 (f 44), .int .u32 (f 45), .int .u32 (f 46), .int .u32 (f 47), .int .u32 (f 48), .int .u32 (f 49), .int .u32 (f 50), .int .u32 (f 51), .int .u32 (f 52), .int .u32 (f 53), .int .u32 (f 54), .int .u32 (f 55), .int .u32 (f 56)]) w := by kernel_rfl
set_option maxRecDepth 100000 in
set_option maxHeartbeats 4000000 in
theorem eq57 (f : Nat → Int) (u : Bool) (w : World) : (Op.equalIn 10000 27 (.agg (regs57 f u)) (.agg (regs57 f u))).run Try.prog w = .ok true w := by
  have u3 := Try.underlying23
  have a3 := Try.isAgg23
  have z3 := Try.sizeOf23
  have u4 := Try.underlying4
  have a4 := Try.isAgg4
  have z4 := Try.sizeOf4
  have hS : Try.prog.underlying 27 = some (.struct (Try.prog.fieldsOf 27)) := by kernel_rfl
  have hp : Try.prog.stoodInHeld 27 = false := by kernel_rfl
  have pX := part_X f u
  have pG := part_G f u
  have eX := eqA32 f
  have eG := eqA16 (fun i => f (41 + i))
  show (Op.equalIn 10000 27 (.agg #[.int .u32 (f 0), .int .u32 (f 1), .int .u32 (f 2), .int .u32 (f 3), .int .u32 (f 4), .int .u32 (f 5), .int .u32 (f 6), .int .u32 (f 7), .int .u32 (f 8), .int .u32 (f 9), .int .u32 (f 10), .int .u32 (f 11), .int .u32 (f 12), .int .u32 (f 13), .int .u32 (f 14), .int .u32 (f 15), .int .u32 (f 16), .int .u32 (f 17), .int .u32 (f 18), .int .u32 (f 19), .int .u32 (f 20), .int .u32 (f 21), .int .u32 (f 22), .int .u32 (f 23), .int .u32 (f 24), .int .u32 (f 25), .int .u32 (f 26), .int .u32 (f 27), .int .u32 (f 28), .int .u32 (f 29), .int .u32 (f 30), .int .u32 (f 31), .int .u32 (f 32), .bool u, .int .u32 (f 34), .int .u32 (f 35), .int .u32 (f 36), .int .u32 (f 37), .int .u32 (f 38), .int .u32 (f 39), .int .u32 (f 40), .int .u32 (f 41), .int .u32 (f 42), .int .u32 (f 43), .int .u32 (f 44), .int .u32 (f 45), .int .u32 (f 46), .int .u32 (f 47), .int .u32 (f 48), .int .u32 (f 49), .int .u32 (f 50), .int .u32 (f 51), .int .u32 (f 52), .int .u32 (f 53), .int .u32 (f 54), .int .u32 (f 55), .int .u32 (f 56)]) (.agg #[.int .u32 (f 0), .int .u32 (f 1), .int .u32 (f 2), .int .u32 (f 3), .int .u32 (f 4), .int .u32 (f 5), .int .u32 (f 6), .int .u32 (f 7), .int .u32 (f 8), .int .u32 (f 9), .int .u32 (f 10), .int .u32 (f 11), .int .u32 (f 12), .int .u32 (f 13), .int .u32 (f 14), .int .u32 (f 15), .int .u32 (f 16), .int .u32 (f 17), .int .u32 (f 18), .int .u32 (f 19), .int .u32 (f 20), .int .u32 (f 21), .int .u32 (f 22), .int .u32 (f 23), .int .u32 (f 24), .int .u32 (f 25), .int .u32 (f 26), .int .u32 (f 27), .int .u32 (f 28), .int .u32 (f 29), .int .u32 (f 30), .int .u32 (f 31), .int .u32 (f 32), .bool u, .int .u32 (f 34), .int .u32 (f 35), .int .u32 (f 36), .int .u32 (f 37), .int .u32 (f 38), .int .u32 (f 39), .int .u32 (f 40), .int .u32 (f 41), .int .u32 (f 42), .int .u32 (f 43), .int .u32 (f 44), .int .u32 (f 45), .int .u32 (f 46), .int .u32 (f 47), .int .u32 (f 48), .int .u32 (f 49), .int .u32 (f 50), .int .u32 (f 51), .int .u32 (f 52), .int .u32 (f 53), .int .u32 (f 54), .int .u32 (f 55), .int .u32 (f 56)])).run Try.prog w = .ok true w
  rw [show (10000 : Nat) = 9999 + 1 from rfl, run_equalIn_agg w 9999 27 _ _ hS hp]
  simp only [Program.fieldsOf, Try.underlying27]
  go_simp
end Go.Proofs.Ytmmaoncgfmfbjaa
