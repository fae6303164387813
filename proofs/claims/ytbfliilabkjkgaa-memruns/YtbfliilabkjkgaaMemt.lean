/-
  What is stored, by the document: contract of the function that the statements bear.
-/
import Derived.Test.YtbfliilabkjkgaaMems
namespace Go.Proofs.Ytbfliilabkjkgaa
open Go.RowKit

def storeW (n g : Nat) (l : List Int) (p k x : Int) (w : World) : World := if askV n p k = 0 then w.setCell ⟨g, (p / 4).toNat, none⟩ (.int .u32 (storeV (wordAt l (p / 4).toNat) p k x)) else w

set_option maxRecDepth 100000 in
set_option maxHeartbeats 2000000 in
theorem rStore (g n cap : Nat) (l : List Int) (p k x : Int) (hn : n ≤ 1000000000) (hp : U32 p) (hx : U32 x) (hu : ∀ i, U32 (wordAt l i)) (w : World) (hc : ∀ i, i < n → w.cell? ⟨g, i, none⟩ = some (.int .u32 (wordAt l i))) (hf : ∀ i, w.frozen? ⟨g, i, none⟩ = false) :
    Calls Try.prog 12 #[.slice (some ⟨g, 0, none⟩) n cap, .int .u32 p, .int .i64 k, .int .u32 x] w fun e w' => e = .returned (.int .i64 (askV n p k)) ∧ w' = storeW n g l p k x w := by
  have CA : Hid _ := rasked (some ⟨g, 0, none⟩) n cap p k hn hp
  obtain ⟨p0, p1⟩ := hp
  obtain ⟨x0, x1⟩ := hx
  by_cases h0 : askV n p k = 0
  · obtain ⟨h1, h2, h3⟩ := ask_zero h0
    have hcell := hc (p / 4).toNat (by omega)
    have hfr := hf (p / 4).toNat
    have hw := hu (p / 4).toNat
    have CB : Hid _ := rBits 4294967295 0 (8 * k) (by constructor <;> decide)
    have e : storeW n g l p k x w = w.setCell ⟨g, (p / 4).toNat, none⟩ (.int .u32 (storeV (wordAt l (p / 4).toNat) p k x)) := by unfold storeW; rw [if_pos h0]
    rw [e, h0]
    rw [h0] at CA
    have hy : U32 (bitsV 4294967295 0 (8 * k)) := bitsV_u32 _ _ _
    unfold storeV maskV
    generalize bitsV 4294967295 0 (8 * k) = y1 at *
    generalize wordAt l (p / 4).toNat = y0 at *
    obtain ⟨y10, y11⟩ := hy
    obtain ⟨w0, w1⟩ := hw
    have k0 : 1 ≤ k := by omega
    have k4 : k ≤ 4 := by omega
    have i0 : 0 ≤ p / 4 := by omega
    have i1 : p / 4 < (n : Int) := by omega
    have q0 : 0 ≤ p % 4 := by omega
    have q1 : p % 4 < 4 := by omega
    have t1 : p.tdiv 4 = p / 4 := Int.tdiv_eq_ediv_of_nonneg p0
    have t2 : p.tmod 4 = p % 4 := Int.tmod_eq_emod_of_nonneg p0
    clear e h0 h1 h2 h3 hc hu hf
    go_enter Try.func12, Try.ntmps12
    go_wp2_with fail
    refine (CA.out _).mono ?_
    rintro e w' ⟨rfl, rfl⟩
    go_wp2_with fail
    refine (CB.out _).mono ?_
    rintro e w' ⟨rfl, rfl⟩
    go_wp2
    go_ret
    exact ⟨rfl, rfl⟩
  · have e : storeW n g l p k x w = w := by unfold storeW; rw [if_neg h0]
    rw [e]
    clear e hc hu hf
    generalize askV n p k = E at *
    go_enter Try.func12, Try.ntmps12
    go_wp2_with fail
    refine (CA.out _).mono ?_
    rintro e w' ⟨rfl, rfl⟩
    go_wp2
    go_ret
    exact ⟨rfl, rfl⟩
end Go.Proofs.Ytbfliilabkjkgaa
