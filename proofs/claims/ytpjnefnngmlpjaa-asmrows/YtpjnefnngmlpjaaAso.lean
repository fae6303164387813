/-
  append of so many zeros to a row that is the call's own (words).
-/
import Derived.Test.YtpjnefnngmlpjaaAsn
import Derived.Lib.AppendZeros
namespace Go.Proofs.Ytpjnefnngmlpjaa
open Go.RowKit

def zrow (N : Nat) : List Value := wrow (List.replicate N 0)
theorem zrow_len (N : Nat) : (zrow N).length = N := by simp [zrow, wrow]
theorem zrow_one (N : Nat) : ∀ u ∈ zrow N, u.oneCell' = true := by
  intro u hu
  simp only [zrow, wrow, List.mem_map] at hu
  obtain ⟨y, _, rfl⟩ := hu
  rfl
theorem zero_cells (N : Nat) : Builtin.zeroCells #[Value.int .u32 0] N = (zrow N).toArray := by
  apply Array.ext
  · simp [Builtin.zeroCells, zrow_len]
  · intro i h1 h2
    simp [Builtin.zeroCells, zrow, wrow, Nat.mod_one]
section
variable {P : Program} (w : World) (t tn ty e : TypeId) (i : TypeInfo)
theorem run_zeros_room (ht : P.underlying t = some (.slice e)) (htn : P.underlying tn = some (.int .u32)) (hi : P.info? e = some i) (hz : i.zero = some (.int .u32 0)) (hs : i.size = 1) (hb : i.bytes = 4)
    (g sLen sCap : Nat) (cur : Array Value) (hg : w.heap[g]? = some (.cells cur e (0, 0))) (N : Nat) (h0 : 0 < N) (hN : N ≤ 4294967295) (hroom : sLen + N ≤ sCap) (hfit : sLen + N ≤ cur.size) :
    (Builtin.append_ #[t, tn] ty #[.slice (some ⟨g, 0, none⟩) sLen sCap, .int .u32 N]).run P w = .ok (.slice (some ⟨g, 0, none⟩) (sLen + N) sCap) (w.setRow g (cur.toList.take sLen ++ zrow N ++ cur.toList.drop (sLen + N)).toArray) := by
  have hst := run_storeCells_at P g sLen e (zrow N) 0 cur w hg (by rw [zrow_len]; simpa using hfit) (zrow_one N)
  rw [zrow_len] at hst
  simp only [Nat.add_zero] at hst
  have hn : N ≠ 0 := by omega
  have hw : IntKind.i64.wrap (N : Int) = N := by rw [IntKind.wrap_i64]; omega
  have h48i : ¬ (281474976710656 < (N : Int) * 4) := by omega
  have hneg : ¬ ((N : Int) < 0) := by omega
  simp [Builtin.append_, run_underlying ht, run_underlying htn, sizeOf, typeInfo, zeroValue, hi, hz, hs, hb, asInt, asIntOf, hw, hn, hneg, h48i, hroom, Addr.add_lit, Value.cells, zero_cells, hst]
theorem run_zeros_grow (ht : P.underlying t = some (.slice e)) (htn : P.underlying tn = some (.int .u32)) (hi : P.info? e = some i) (hz : i.zero = some (.int .u32 0)) (hs : i.size = 1) (hb : i.bytes = 4)
    (b : Addr) (sLen sCap : Nat) (olds : List Value) (hlo : olds.length = sLen) (holds : ∀ j v, olds[j]? = some v → w.cell? (b.add j) = some v) (N : Nat) (h0 : 0 < N) (hN : N ≤ 4294967295)
    (hgr : sCap < sLen + N) (h63 : ((sLen + N : Nat) : Int) ≤ 9223372036854775807) (hfit : Builtin.nextslicecap (sLen + N) sCap * 4 ≤ 281474976710656) :
    (Builtin.append_ #[t, tn] ty #[.slice (some b) sLen sCap, .int .u32 N]).run P w =
      .ok (.slice (some ⟨w.heap.size, 0, none⟩) (sLen + N) (grownCap w (sLen + N) sCap e)) (w.drew.alloc (.cells (olds.toArray ++ (zrow N).toArray ++ Builtin.zeroCells #[Value.int .u32 0] (grownCap w (sLen + N) sCap e - (sLen + N))) e)) := by
  have hnr : ¬ (sLen + N ≤ sCap) := by omega
  have h63' : ¬ (9223372036854775807 < ((sLen : Int) + (N : Int))) := by omega
  have h48' : ¬ (281474976710656 < Builtin.nextslicecap (sLen + N) sCap * 4) := by omega
  have hfo := run_firstCells_some (P := P) w.drew 1 sLen b sLen sCap olds (by omega) (by simpa using holds)
  have hn : N ≠ 0 := by omega
  have hw : IntKind.i64.wrap (N : Int) = N := by rw [IntKind.wrap_i64]; omega
  have h48i : ¬ (281474976710656 < (N : Int) * 4) := by omega
  have hneg : ¬ ((N : Int) < 0) := by omega
  simp [Builtin.append_, run_underlying ht, run_underlying htn, sizeOf, typeInfo, zeroValue, hi, hz, hs, hb, asInt, asIntOf, hw, hn, hneg, h48i, hnr, h63', h48', Question.forced, hfo, Value.cells, zero_cells, newRow, grownCap]
end
end Go.Proofs.Ytpjnefnngmlpjaa
