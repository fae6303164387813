/-
  Package lex: sign.
-/
import Derived.Test.YtjgpojjbjgdfkaaDoorLxx
namespace Go.Proofs.YtjgpojjbjgdfkaaDoor
open Go.RowKit

theorem sg_len : ∀ q ∈ sgT, (q.2.2.2 = 1 ∨ q.2.2.2 = 2) ∧ (q.2.2.1 = 0 → q.2.2.2 = 1) := by decide
theorem signV_len {a b n : Int} (h : signV a b = some n) : (n = 1 ∨ n = 2) ∧ (b = 0 → n = 1) := by
  unfold signV at h
  cases hi : sgIdx a b with
  | none => rw [hi] at h; cases h
  | some q =>
    rw [hi] at h
    obtain ⟨h1, _, h3⟩ := sg_idx hi
    obtain ⟨k1, k2⟩ := sg_len q h1
    have e : q.2.2.2 = n := by simpa using h
    rw [e] at k1 k2
    rw [h3] at k2
    exact ⟨k1, k2⟩
theorem signN_len {S : ByteArray} {p : Nat} (hp : p < S.size) : ∃ N : Nat, signN S p = N ∧ p + N ≤ S.size ∧ N ≤ 2 := by
  unfold signN
  cases h : signV (byteV S p) (byteV S (p + 1)) with
  | some n =>
    obtain ⟨h1, h2⟩ := signV_len h
    rcases h1 with rfl | rfl
    · exact ⟨1, rfl, by omega, by omega⟩
    · refine ⟨2, rfl, ?_, by omega⟩
      by_cases hq : p + 1 < S.size
      · omega
      · have : byteV S (p + 1) = 0 := by unfold byteV; rw [dif_neg hq]
        exact absurd (h2 this) (by decide)
  | none =>
    cases h2 : signV (byteV S p) 0 with
    | none => exact ⟨0, rfl, by omega, by omega⟩
    | some n =>
      have := (signV_len h2).2 rfl
      subst this
      exact ⟨1, rfl, by omega, by omega⟩
/-- The sign at p, as a token: its kind, its text, the place behind it. -/
def signK (N : Nat) : Int := if N = 0 then 5 else 4
def signE (N : Nat) : Nat := if N = 0 then 1 else N
theorem tok_put2 {V : World} {b : Nat} {k n p : Int} {t : ByteArray} (h : V.heap[b]? = some (.cells (tokC k t n p) 33)) (k' : Int) (t' : ByteArray) (n' p' : Int) :
    ∃ Y, Y = (((V.setCell ⟨b, 0, none⟩ (.int .i64 k')).setCell ⟨b, 1, none⟩ (.string t')).setCell ⟨b, 2, none⟩ (.int .u32 n')).setCell ⟨b, 3, none⟩ (.int .i64 p') ∧ Y.heap[b]? = some (.cells (tokC k' t' n' p') 33) ∧ Below b V Y ∧ ∀ k, k ≠ b → Y.heap[k]? = V.heap[k]? := by
  obtain ⟨Y, hY, h1, h2⟩ := tok_put h (Below.refl b V) (Nat.le_refl _) k' t' n' p'
  refine ⟨Y, hY, h1, h2, fun k hk => ?_⟩
  rw [hY, Below.heap_setCell _ _ _ _ hk, Below.heap_setCell _ _ _ _ hk, Below.heap_setCell _ _ _ _ hk, Below.heap_setCell _ _ _ _ hk]
theorem Only.and {rb : Nat} {w V Y : World} (h : Only rb w V) (hb : Below w.heap.size V Y) : Only rb w Y :=
  ⟨h.1.trans (hb.mono (Nat.zero_le _)), fun k hk hl => by rw [hb.block k hl, h.2 k hk hl]⟩
theorem Rd.put {B : Nat} {V Y : World} {rb b : Nat} {S : ByteArray} {cs : Array Value} {t : TypeId} (h : Rd B V rb S) (hb : V.heap[b]? = some (.cells cs t)) (hne : b ≠ rb) (hk : ∀ k, k ≠ b → Y.heap[k]? = V.heap[k]?) : Rd B Y rb S := by
  obtain ⟨h0, m, h1, h2⟩ := h
  refine ⟨h0, m, ?_, fun g hg => ?_⟩
  · unfold RdAt
    rw [hk rb (Ne.symm hne)]
    exact h1
  · obtain ⟨a, c, n, d⟩ := h2 g hg
    refine ⟨a, c, n, mapP_block d (hk g ?_)⟩
    rintro rfl
    obtain ⟨⟨D, ⟨es, clock, e1, _⟩, _⟩⟩ := d
    rw [hb] at e1
    cases e1
set_option maxRecDepth 100000 in
set_option maxHeartbeats 2000000 in
theorem lSign {B : Nat} {w : World} {rb : Nat} {S : ByteArray} (h : Rd B w rb S) (hS : S.size ≤ 281474976710656) (p : Nat) (hp : p < S.size) {N : Nat} (hN : signN S p = N) {t : ByteArray} (ht : t = S.extract p (p + N)) {K : Int} (hK : K = signK N) {q : Nat} (hq : q = p + signE N) :
    Calls Tryd.prog 33 #[.pointer (some ⟨rb, 0, none⟩), .int .i64 p] w fun e w' => e = .returned (.tuple #[.agg (tokC K t 0 p), .int .i64 q]) ∧ Only rb w w' ∧ Rd B w' rb S := by
  have H : Hid _ := h
  have hBw : Hid (B ≤ w.heap.size) := by have := h.base; have := h.lt; show _ ≤ _; omega
  obtain ⟨N', hN', hp2, hn2⟩ := signN_len hp
  rw [hN] at hN'
  have e1 : N = N' := by omega
  subst e1
  have HN : Hid (signN S p = N) := hN
  have HT : Hid (t = S.extract p (p + N)) := ht
  have HK : Hid (K = signK N) := hK
  have HQ : Hid (q = p + signE N) := hq
  clear h hN hN' ht hK hq
  go_enter Tryd.func33, Tryd.ntmps33
  go_wp2_with fail
  obtain ⟨W, hW⟩ : ∃ W, W = w.alloc (.cells (tokC 0 ⟨#[]⟩ 0 0) 33) := ⟨_, rfl⟩
  have hWb : Hid (Below w.heap.size w W) := by rw [hW]; exact (Below.refl _ _).alloc (Nat.le_refl _) _
  have hWk : Hid (W.heap[w.heap.size]? = some (.cells (tokC 0 ⟨#[]⟩ 0 0) 33)) := by rw [hW]; exact alloc_at _ _
  unfold tokC at hW
  rw [← hW]
  clear hW
  have hWo : Hid (Only rb w W) := Only.of_below hWb.out
  have hlt : Hid (rb < w.heap.size) := H.out.lt
  have hne : Hid (w.heap.size ≠ rb) := by have := hlt.out; show _ ≠ _; omega
  refine Calls.mono (lSignLen (H.out.kept hWb.out) hS p hp) ?_
  rw [HN.out]
  rintro e w1 ⟨rfl, hO, hR⟩
  have HO : Hid (Only rb w w1) := hWo.out.trans hO
  have HR : Hid _ := hR
  have k1 : Hid _ := hO.kept hWk.out hne.out
  clear hO hR hWk hWo hWb
  by_cases h0 : N = 0
  · subst h0
    have hk : K = 5 := by rw [HK.out]; rfl
    have hq : q = p + 1 := by rw [HQ.out]; rfl
    have ht : t = ⟨#[]⟩ := by
      rw [HT.out]
      refine bytes_ext ?_
      simp
    clear HK HQ HT
    subst hk
    subst hq
    subst ht
    have hp3 : (p : Int) < 281474976710656 := by omega
    have p0 : (0 : Int) ≤ (p : Int) := by omega
    go_wp2_with fail
    refine Calls.mono (lBad p _) ?_
    rintro e w2 ⟨rfl, hb⟩
    unfold tokC
    have k2 := kept_on k1.out hb
    obtain ⟨g1, g2, g3, g4, z1, z2, z3, z4⟩ := tok_at k2
    obtain ⟨Y, hY, hYk, hYb, hYo⟩ := tok_put2 k2 5 ⟨#[]⟩ 0 p
    obtain ⟨y1, y2, y3, y4, -, -, -, -⟩ := tok_at hYk
    have HO2 : Hid (Only rb w Y) := (HO.out.trans (Only.of_below hb)).and hYb
    have HR2 : Hid (Rd B Y rb S) := (HR.out.kept hb).put k2 hne.out hYo
    clear hYk hYb hYo k2 hb k1
    go_wp2_with (rw [← hY])
    exact bodyPost_ret (v := .tuple #[.agg (tokC 5 ⟨#[]⟩ 0 p), .int .i64 (p + 1 : Nat)]) (by simp [results, Tryd.results33, go_sem, tokC, y1, y2, y3, y4]) rfl ⟨rfl, HO2.out, HR2.out⟩
  · have n0 : ¬ (N : Int) = 0 := by omega
    have hk : K = 4 := by rw [HK.out]; unfold signK; rw [if_neg h0]
    have hq : q = p + N := by rw [HQ.out]; unfold signE; rw [if_neg h0]
    clear HK HQ
    subst hk
    have e0 : ((N : Int) == 0) = false := by simpa using h0
    have e1 : IntKind.i64.wrap ((p : Int) + (N : Int)) = (q : Int) := by
      rw [hq]
      rw [IntKind.wrap_i64]
      omega
    have hq1 : p ≤ q := by omega
    have hq2 : q ≤ S.size := by omega
    have HE : Hid (t = S.extract p q) := by rw [hq]; exact HT.out
    clear hq HT hp2 n0 h0
    go_wp2_with fail
    refine Calls.mono (lText (S := S) (m := HR.out.at_.choose) HR.out.at_.choose_spec.1 hS p q hq1 hq2) ?_
    rw [← HE.out]
    rintro e w2 ⟨rfl, hb⟩
    have k2 := kept_on k1.out hb
    obtain ⟨g1, g2, g3, g4, z1, z2, z3, z4⟩ := tok_at k2
    obtain ⟨Y, hY, hYk, hYb, hYo⟩ := tok_put2 k2 4 t 0 p
    obtain ⟨y1, y2, y3, y4, -, -, -, -⟩ := tok_at hYk
    have HO2 : Hid (Only rb w Y) := (HO.out.trans (Only.of_below hb)).and hYb
    have HR2 : Hid (Rd B Y rb S) := (HR.out.kept hb).put k2 hne.out hYo
    clear hYk hYb hYo k2 hb k1
    go_wp2_with (rw [← hY])
    exact bodyPost_ret (v := .tuple #[.agg (tokC 4 t 0 p), .int .i64 q]) (by simp [results, Tryd.results33, go_sem, tokC, y1, y2, y3, y4]) rfl ⟨rfl, HO2.out, HR2.out⟩
end Go.Proofs.YtjgpojjbjgdfkaaDoor
