/-
  append(s, make([]uint32, n)...) where n is a byte.
-/
import Derived.Test.YtpjnefnngmlpjaaAsp
namespace Go.Proofs.Ytpjnefnngmlpjaa
open Go.RowKit

section
variable {P : Program} (w : World) (t tn ty e : TypeId) (i : TypeInfo)
theorem run_zeros_room8 (ht : P.underlying t = some (.slice e)) (htn : P.underlying tn = some (.int .u8)) (hi : P.info? e = some i) (hz : i.zero = some (.int .u32 0)) (hs : i.size = 1) (hb : i.bytes = 4)
    (g sLen sCap : Nat) (cur : Array Value) (hg : w.heap[g]? = some (.cells cur e (0, 0))) (N : Nat) (h0 : 0 < N) (hN : N ≤ 4294967295) (hroom : sLen + N ≤ sCap) (hfit : sLen + N ≤ cur.size) :
    (Builtin.append_ #[t, tn] ty #[.slice (some ⟨g, 0, none⟩) sLen sCap, .int .u8 N]).run P w = .ok (.slice (some ⟨g, 0, none⟩) (sLen + N) sCap) (w.setRow g (cur.toList.take sLen ++ zrow N ++ cur.toList.drop (sLen + N)).toArray) := by
  have hst := run_storeCells_at P g sLen e (zrow N) 0 cur w hg (by rw [zrow_len]; simpa using hfit) (zrow_one N)
  rw [zrow_len] at hst
  simp only [Nat.add_zero] at hst
  have hn : N ≠ 0 := by omega
  have hw : IntKind.i64.wrap (N : Int) = N := by rw [IntKind.wrap_i64]; omega
  have h48i : ¬ (281474976710656 < (N : Int) * 4) := by omega
  have hneg : ¬ ((N : Int) < 0) := by omega
  simp [Builtin.append_, run_underlying ht, run_underlying htn, sizeOf, typeInfo, zeroValue, hi, hz, hs, hb, asInt, asIntOf, hw, hn, hneg, h48i, hroom, Addr.add_lit, Value.cells, zero_cells, hst]
theorem run_zeros_grow8 (ht : P.underlying t = some (.slice e)) (htn : P.underlying tn = some (.int .u8)) (hi : P.info? e = some i) (hz : i.zero = some (.int .u32 0)) (hs : i.size = 1) (hb : i.bytes = 4)
    (b : Addr) (sLen sCap : Nat) (olds : List Value) (hlo : olds.length = sLen) (holds : ∀ j v, olds[j]? = some v → w.cell? (b.add j) = some v) (N : Nat) (h0 : 0 < N) (hN : N ≤ 4294967295)
    (hgr : sCap < sLen + N) (h63 : ((sLen + N : Nat) : Int) ≤ 9223372036854775807) (hfit : Builtin.nextslicecap (sLen + N) sCap * 4 ≤ 281474976710656) :
    (Builtin.append_ #[t, tn] ty #[.slice (some b) sLen sCap, .int .u8 N]).run P w =
      .ok (.slice (some ⟨w.heap.size, 0, none⟩) (sLen + N) (grownCap w (sLen + N) sCap e)) (w.drew.alloc (.cells (olds.toArray ++ (zrow N).toArray ++ Builtin.zeroCells #[Value.int .u32 0] (grownCap w (sLen + N) sCap e - (sLen + N))) e)) := by
  have hnr : ¬ (sLen + N ≤ sCap) := by omega
  have h63' : ¬ (9223372036854775807 < ((sLen : Int) + (N : Int))) := by omega
  have h48' : ¬ (281474976710656 < Builtin.nextslicecap (sLen + N) sCap * 4) := by omega
  have hfo := run_firstCells_some (P := P) w.drew 1 sLen b sLen sCap olds (by omega) (by simpa using holds)
  have hn : N ≠ 0 := by omega
  have hw : IntKind.i64.wrap (N : Int) = N := by rw [IntKind.wrap_i64]; omega
  have h48i : ¬ (281474976710656 < (N : Int) * 4) := by omega
  have hneg : ¬ ((N : Int) < 0) := by omega
  simp [Builtin.append_, run_underlying ht, run_underlying htn, sizeOf, typeInfo, zeroValue, hi, hz, hs, hb, asInt, asIntOf, hw, hn, hneg, h48i, hnr, h63', h48', Question.forced, hfo, Value.cells, zero_cells, newRow, grownCap]
end
theorem app_zeros8 {w : World} {B : Nat} {ty : TypeId} {wv : Value} {ws : List Int} (N : Nat) (ho : w.ownsRow B 22 1 wv ws.length (wrow ws)) (hN : N ≤ 1000000000) (hn : ws.length ≤ 1000000000) (hB : B ≤ w.heap.size) :
    ∃ v' w1, (Builtin.append_ #[32, 5] ty #[wv, .int .u8 N]).run Try.prog w = .ok v' w1 ∧ w1.ownsRow B 22 1 v' (ws.length + N) (wrow ws ++ wrow (List.replicate N 0)) ∧ w.grownBy w1 wv.ownBlock ∧ (v'.ownBlock = wv.ownBlock ∨ v'.ownBlock = some w.heap.size) := by
  obtain ⟨i0, hi0, hz0, hz1, hz2⟩ := info_parts infoU
  have ut : Try.prog.underlying 32 = some (.slice 22) := Try.underlying32
  have un : Try.prog.underlying 5 = some (.int .u8) := Try.underlying5
  have hml : ws.length + N ≤ maxLen := by unfold maxLen; omega
  have hwl : (wrow ws).length = ws.length := by simp [wrow]
  by_cases h0 : N = 0
  · subst h0
    refine ⟨wv, w, ?_, by simpa [wrow] using ho, ⟨rfl, rfl, rfl, Nat.le_refl _, fun _ _ _ => rfl⟩, .inl rfl⟩
    have hw : IntKind.i64.wrap (0 : Int) = 0 := rfl
    obtain ⟨_, ⟨rfl, _⟩ | ⟨g, cap, cur, rfl, _, _, hnc, _⟩⟩ := ho
    · simp [Builtin.append_, run_underlying ut, run_underlying un, sizeOf, typeInfo, hi0, hz2, asInt, asIntOf, hw]
    · simp [Builtin.append_, run_underlying ut, run_underlying un, sizeOf, typeInfo, hi0, hz2, asInt, asIntOf, hw, hnc, storeCells]
  have hp : 0 < N := by omega
  have grown : ∀ (old : Nat) (row : Option Nat),
      (w.drew.alloc (.cells ((wrow ws).toArray ++ (zrow N).toArray ++ Builtin.zeroCells #[Value.int .u32 0] (grownCap w (ws.length + N) old 22 - (ws.length + N))) 22)).ownsRow B 22 1
        (.slice (some ⟨w.heap.size, 0, none⟩) (ws.length + N) (grownCap w (ws.length + N) old 22)) (ws.length + N) (wrow ws ++ zrow N) ∧
      w.grownBy (w.drew.alloc (.cells ((wrow ws).toArray ++ (zrow N).toArray ++ Builtin.zeroCells #[Value.int .u32 0] (grownCap w (ws.length + N) old 22 - (ws.length + N))) 22)) row := by
    intro old row
    have hge := grownCap_ge w (ws.length + N) old 22
    have hcm := grownCap_le_maxLen w (ws.length + N) old 22 hml
    have hl : (wrow ws ++ zrow N).length = (ws.length + N) * 1 := by rw [List.length_append, hwl, zrow_len, Nat.mul_one]
    refine ⟨⟨hl, .inr ⟨w.heap.size, _, _, rfl, hB, heap_alloc_new w.drew _, hge, hcm, ?_, ?_⟩⟩, ⟨rfl, rfl, rfl, by simp, fun k hk _ => heap_alloc_old w.drew _ hk⟩⟩
    · simp only [Array.size_append, List.size_toArray, size_zeroCells, hwl, zrow_len]
      show ws.length + N + (grownCap w (ws.length + N) old 22 - (ws.length + N)) * 1 = _
      omega
    · simp only [Array.toList_append, List.append_assoc]
      rw [← List.append_assoc, ← hl]
      exact List.take_left
  have ho' := ho
  obtain ⟨hlen, ⟨rfl, hx⟩ | ⟨g, cap, cur, rfl, hbg, hg, hnc, hcm, hcs, htake⟩⟩ := ho
  · have hws : ws = [] := List.eq_nil_of_length_eq_zero hx
    subst hws
    have hr := Lib.run_append_nil_zeros (P := Try.prog) w 32 5 ty 22 i0 (.int .u32 0) .u8 .u8 ut un hi0 hz0 N hp (by omega) (by omega) (by rw [hz2]; omega)
    have hgr := grown 0 none
    simp only [List.length_nil, Nat.zero_add] at hgr ⊢
    have e : ((wrow ([] : List Int)).toArray ++ (zrow N).toArray ++ Builtin.zeroCells #[Value.int .u32 0] (grownCap w N 0 22 - N)) = (Builtin.zeroCells (Value.int .u32 0).cells N ++ Builtin.zeroCells (Value.int .u32 0).cells (grownCap w N 0 22 - N)) := by
      show _ = Builtin.zeroCells #[Value.int .u32 0] N ++ Builtin.zeroCells #[Value.int .u32 0] (grownCap w N 0 22 - N)
      rw [zero_cells N]
      simp [wrow]
    rw [e] at hgr
    exact ⟨_, _, hr, hgr.1, hgr.2, .inr rfl⟩
  · by_cases hroom : ws.length + N ≤ cap
    · have hfit : ws.length + N ≤ cur.size := by omega
      have hr := run_zeros_room8 (P := Try.prog) w 32 5 ty 22 i0 ut un hi0 hz0 hz1 hz2 g ws.length cap cur hg N hp (by omega) hroom hfit
      refine ⟨_, _, hr, ⟨?_, .inr ⟨g, cap, _, rfl, hbg, setRow_heap w g cur _ 22 _ hg, hroom, hcm, ?_, ?_⟩⟩, ⟨rfl, rfl, rfl, by simp, fun k _ hk => setRow_other w g k _ (fun e => hk (by simp [Value.ownBlock, e]))⟩, .inl rfl⟩
      · show (wrow ws ++ zrow N).length = _
        rw [List.length_append, hwl, zrow_len, Nat.mul_one]
      · simp only [List.size_toArray, List.length_append, List.length_take, List.length_drop, Array.length_toList, zrow_len]
        omega
      · have ht : cur.toList.take ws.length = wrow ws := by
          have := htake
          rw [Nat.mul_one] at this
          exact this
        rw [ht]
        rw [show (ws.length + N) * 1 = (wrow ws ++ zrow N).length by rw [List.length_append, hwl, zrow_len, Nat.mul_one]]
        exact List.take_left
    · have holds : ∀ j u, (wrow ws)[j]? = some u → w.cell? ((⟨g, 0, none⟩ : Addr).add j) = some u := ho'.cells (g := g) rfl
      have hr := run_zeros_grow8 (P := Try.prog) w 32 5 ty 22 i0 ut un hi0 hz0 hz1 hz2 ⟨g, 0, none⟩ ws.length cap (wrow ws) hwl holds N hp (by omega) (by omega) (by omega) (growslice_fits (by omega) (by omega))
      have hgr := grown cap (Value.ownBlock (.slice (some ⟨g, 0, none⟩) ws.length cap))
      exact ⟨_, _, hr, hgr.1, hgr.2, .inr rfl⟩
end Go.Proofs.Ytpjnefnngmlpjaa
