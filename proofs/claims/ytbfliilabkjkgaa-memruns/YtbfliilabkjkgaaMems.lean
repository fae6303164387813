/-
  What is loaded, and what is stored, by the document: contracts of the functions that the statements bear.
-/
import Derived.Test.YtbfliilabkjkgaaMemr
namespace Go.Proofs.Ytbfliilabkjkgaa
open Go.RowKit

theorem ask_zero {n : Nat} {p k : Int} (h : askV n p k = 0) : (k = 1 ∨ k = 2 ∨ k = 4) ∧ p % k = 0 ∧ p < 4 * (n : Int) := by
  unfold askV at h
  split at h
  · cases h
  · rename_i h1
    split at h
    · cases h
    · rename_i h2
      split at h
      · cases h
      · rename_i h3
        exact ⟨(sizeV_iff k).1 (by cases hs : sizeV k with | true => rfl | false => exact absurd hs h1), by omega, by omega⟩

theorem gotM_of {x y e f : Int} (h : x = y) (h' : e = f) : Ending.returned (.agg #[.int .u32 x, .int .i64 e]) = .returned (.agg #[.int .u32 y, .int .i64 f]) := by rw [h, h']

def loadN (n : Nat) (l : List Int) (p k : Int) (s : Bool) : Int := if askV n p k = 0 then loadV l p k s else 0

set_option maxRecDepth 100000 in
set_option maxHeartbeats 2000000 in
theorem rLoad (g n cap : Nat) (l : List Int) (p k : Int) (s : Bool) (hn : n ≤ 1000000000) (hp : U32 p) (hu : ∀ i, U32 (wordAt l i)) (w : World) (hc : ∀ i, i < n → w.cell? ⟨g, i, none⟩ = some (.int .u32 (wordAt l i))) (hg : g < w.heap.size) :
    Calls Try.prog 14 #[.slice (some ⟨g, 0, none⟩) n cap, .int .u32 p, .int .i64 k, .bool s] w fun e w' => e = .returned (.agg #[.int .u32 (loadN n l p k s), .int .i64 (askV n p k)]) ∧ Below w.heap.size w w' := by
  have CA : Hid _ := rasked (some ⟨g, 0, none⟩) n cap p k hn hp
  obtain ⟨p0, p1⟩ := hp
  by_cases h0 : askV n p k = 0
  · obtain ⟨h1, h2, h3⟩ := ask_zero h0
    have hcell := hc (p / 4).toNat (by omega)
    have hw := hu (p / 4).toNat
    have CB : Hid _ := rBits (wordAt l (p / 4).toNat) (p % 4 * 8) (8 * k) hw
    have CS : Hid _ := rSext (bitsV (wordAt l (p / 4).toNat) (p % 4 * 8) (8 * k)) (8 * k) (bitsV_u32 _ _ _)
    have e : loadN n l p k s = loadV l p k s := by unfold loadN; rw [if_pos h0]
    rw [e, h0]
    rw [h0] at CA
    have hcell' : (w.alloc (.cells #[.int .u32 0, .int .i64 0] 38)).cell? ⟨g, (p / 4).toNat, none⟩ = some (.int .u32 (wordAt l (p / 4).toNat)) := by rw [World.cell?_alloc_lt _ _ _ hg]; exact hcell
    have HL : Hid (loadV l p k s = if s then sextV (bitsV (wordAt l (p / 4).toNat) (p % 4 * 8) (8 * k)) (8 * k) else bitsV (wordAt l (p / 4).toNat) (p % 4 * 8) (8 * k)) := rfl
    generalize loadV l p k s = R at *
    generalize sextV (bitsV (wordAt l (p / 4).toNat) (p % 4 * 8) (8 * k)) (8 * k) = y2 at *
    generalize bitsV (wordAt l (p / 4).toNat) (p % 4 * 8) (8 * k) = y1 at *
    generalize wordAt l (p / 4).toNat = y0 at *
    have k0 : 1 ≤ k := by omega
    have k4 : k ≤ 4 := by omega
    have i0 : 0 ≤ p / 4 := by omega
    have i1 : p / 4 < (n : Int) := by omega
    have q0 : 0 ≤ p % 4 := by omega
    have q1 : p % 4 < 4 := by omega
    have t1 : p.tdiv 4 = p / 4 := Int.tdiv_eq_ediv_of_nonneg p0
    have t2 : p.tmod 4 = p % 4 := Int.tmod_eq_emod_of_nonneg p0
    clear e h0 h1 h2 h3 hc hu hcell hw
    cases s with
    | false =>
      have HR : R = y1 := HL.out
      subst HR
      clear HL
      go_enter Try.func14, Try.ntmps14
      go_wp2_with fail
      refine (CA.out _).mono ?_
      rintro e w' ⟨rfl, rfl⟩
      go_wp2_with fail
      refine (CB.out _).mono ?_
      rintro e w' ⟨rfl, rfl⟩
      go_wp2
      exact bodyPost_ret (v := .agg #[.int .u32 R, .int .i64 0]) (by simp [results, Try.results14, go_sem]) rfl ⟨rfl, (Below.refl _ _).alloc (Nat.le_refl _) _⟩
    | true =>
      have HR : R = y2 := HL.out
      subst HR
      clear HL
      go_enter Try.func14, Try.ntmps14
      go_wp2_with fail
      refine (CA.out _).mono ?_
      rintro e w' ⟨rfl, rfl⟩
      go_wp2_with fail
      refine (CB.out _).mono ?_
      rintro e w' ⟨rfl, rfl⟩
      go_wp2_with fail
      refine (CS.out _).mono ?_
      rintro e w2 ⟨rfl, hb2⟩
      have K := kept_block hb2
      obtain ⟨cc, cf, cs⟩ := cells_of K
      have c0 : w2.cell? ⟨w.heap.size, 0, none⟩ = some (.int .u32 0) := cc 0 _ rfl
      have c1 : w2.cell? ⟨w.heap.size, 1, none⟩ = some (.int .i64 0) := cc 1 _ rfl
      have f0 := cf 0
      have f1 := cf 1
      have hb := below_first hb2
      clear cc cf hb2 K
      go_wp2
      exact bodyPost_ret (v := .agg #[.int .u32 R, .int .i64 0]) (by simp [results, Try.results14, go_sem, c0, c1]) rfl ⟨rfl, (hb.setCell (Nat.le_refl _) _).setCell (Nat.le_refl _) _⟩
  · have e : loadN n l p k s = 0 := by unfold loadN; rw [if_neg h0]
    rw [e]
    clear e hc hu
    generalize askV n p k = E at *
    go_enter Try.func14, Try.ntmps14
    go_wp2_with fail
    refine (CA.out _).mono ?_
    rintro e w' ⟨rfl, rfl⟩
    go_wp2
    exact bodyPost_ret (v := .agg #[.int .u32 0, .int .i64 E]) (by simp [results, Try.results14, go_sem]) rfl ⟨rfl, (Below.refl _ _).alloc (Nat.le_refl _) _⟩
end Go.Proofs.Ytbfliilabkjkgaa
