/-
  What any word is, by the document: the contract of the function that tells it.
-/
import Derived.Test.YtbdfaepljgajbaaRefq
namespace Go.Proofs.Ytbdfaepljgajbaa
open Go.RowKit

/-- What is told of a word: an instruction, or none. -/
def toldOf (x : Int) (s : ByteArray) (d a b m : Int) (ok : Bool) : Prop :=
  (ok = true ∧ getV x = some ⟨s.toList, d, a, b, m⟩) ∨ (ok = false ∧ s = ⟨#[]⟩ ∧ d = 0 ∧ a = 0 ∧ b = 0 ∧ m = 0 ∧ getV x = none)

theorem told_cells {w w1 wr : World} (hb : Below (w.alloc (.cells #[.string ⟨#[]⟩, .int .i64 0, .int .i64 0, .int .i64 0, .int .i32 0, .bool false] 34)).heap.size (w.alloc (.cells #[.string ⟨#[]⟩, .int .i64 0, .int .i64 0, .int .i64 0, .int .i32 0, .bool false] 34)) w1) (hr : Below w1.heap.size w1 wr) :
    (wr.cell? ⟨w.heap.size, 0, none⟩ = some (.string ⟨#[]⟩) ∧ wr.cell? ⟨w.heap.size, 1, none⟩ = some (.int .i64 0) ∧ wr.cell? ⟨w.heap.size, 2, none⟩ = some (.int .i64 0) ∧ wr.cell? ⟨w.heap.size, 3, none⟩ = some (.int .i64 0) ∧ wr.cell? ⟨w.heap.size, 4, none⟩ = some (.int .i32 0) ∧ wr.cell? ⟨w.heap.size, 5, none⟩ = some (.bool false)) ∧ (∀ i, wr.frozen? ⟨w.heap.size, i, none⟩ = false) ∧ Below w.heap.size w wr ∧ w.heap.size < wr.heap.size := by
  have hz := hb.size
  have hz2 := hr.size
  simp at hz
  have C : ∀ (i : Nat) (v : Value), (w.alloc (.cells #[.string ⟨#[]⟩, .int .i64 0, .int .i64 0, .int .i64 0, .int .i32 0, .bool false] 34)).cell? ⟨w.heap.size, i, none⟩ = some v → wr.cell? ⟨w.heap.size, i, none⟩ = some v := by
    intro i v hv
    rw [hr.cell (p := ⟨w.heap.size, i, none⟩) (by show w.heap.size < _; omega), hb.cell (p := ⟨w.heap.size, i, none⟩) (by simp)]
    exact hv
  refine ⟨⟨C _ _ (by simp [go_sem]), C _ _ (by simp [go_sem]), C _ _ (by simp [go_sem]), C _ _ (by simp [go_sem]), C _ _ (by simp [go_sem]), C _ _ (by simp [go_sem])⟩, ?_, ?_, by omega⟩
  · intro i
    rw [hr.frozen (p := ⟨w.heap.size, i, none⟩) (by show w.heap.size < _; omega), hb.frozen (p := ⟨w.heap.size, i, none⟩) (by simp), frozen?_alloc_cells]
    simp [World.frozen?]
  · exact (((Below.refl _ _).alloc (Nat.le_refl _) _).trans (hb.mono (by simp))).trans (hr.mono (by omega))

/-- The three ways of a round: the word is that name's; the fields may not be; they have another word. -/
theorem three_ways (x : Int) (hx : U32 x) (k : Nat) (hk : k < 53) :
    (hasB (formAt k).2 x = true ∧ mayV (insOf (formAt k) x) = true ∧ putV (insOf (formAt k) x) = x) ∨
    (hasB (formAt k).2 x = false ∧ mayV (insOf (formAt k) x) = false) ∨
    (hasB (formAt k).2 x = false ∧ mayV (insOf (formAt k) x) = true ∧ (putV (insOf (formAt k) x) == x) = false) := by
  have hm := formAt_mem k hk
  have hf := formV_of_mem hm
  have hr := read_put (formAt k).2 (forms_good _ hm) x hx.1 hx.2
  have e1 : mayV (insOf (formAt k) x) = mayF (formAt k).2.k (readD (formAt k).2.k x) (readA (formAt k).2.k x) (readB (formAt k).2.k x) (readM (formAt k).2.k x) := by
    show mayF (formV (formAt k).1).k _ _ _ _ = _
    rw [hf]; rfl
  have e2 : putV (insOf (formAt k) x) = putF (formAt k).2 (readD (formAt k).2.k x) (readA (formAt k).2.k x) (readB (formAt k).2.k x) (readM (formAt k).2.k x) := by
    show putF (formV (formAt k).1) _ _ _ _ = _
    rw [hf]; rfl
  rw [← e1, ← e2, ← hasB_iff] at hr
  cases hb : hasB (formAt k).2 x with
  | true =>
    have := hr.mpr hb
    exact Or.inl ⟨rfl, this.1, this.2⟩
  | false =>
    cases hv : mayV (insOf (formAt k) x) with
    | false => exact Or.inr (Or.inl ⟨rfl, rfl⟩)
    | true =>
      refine Or.inr (Or.inr ⟨rfl, rfl, ?_⟩)
      have : ¬ putV (insOf (formAt k) x) = x := by
        intro h
        have := hr.mp ⟨hv, h⟩
        rw [hb] at this
        cases this
      simpa using this

theorem told_put {V : World} {B : Nat} {u0 u1 u2 u3 u4 u5 v0 v1 v2 v3 v4 v5 : Value} (h0 : V.cell? ⟨B, 0, none⟩ = some u0) (h1 : V.cell? ⟨B, 1, none⟩ = some u1) (h2 : V.cell? ⟨B, 2, none⟩ = some u2) (h3 : V.cell? ⟨B, 3, none⟩ = some u3) (h4 : V.cell? ⟨B, 4, none⟩ = some u4) (h5 : V.cell? ⟨B, 5, none⟩ = some u5) :
    ((((((V.setCell ⟨B, 0, none⟩ v0).setCell ⟨B, 1, none⟩ v1).setCell ⟨B, 2, none⟩ v2).setCell ⟨B, 3, none⟩ v3).setCell ⟨B, 4, none⟩ v4).setCell ⟨B, 5, none⟩ v5).cell? ⟨B, 0, none⟩ = some v0 ∧ ((((((V.setCell ⟨B, 0, none⟩ v0).setCell ⟨B, 1, none⟩ v1).setCell ⟨B, 2, none⟩ v2).setCell ⟨B, 3, none⟩ v3).setCell ⟨B, 4, none⟩ v4).setCell ⟨B, 5, none⟩ v5).cell? ⟨B, 1, none⟩ = some v1 ∧ ((((((V.setCell ⟨B, 0, none⟩ v0).setCell ⟨B, 1, none⟩ v1).setCell ⟨B, 2, none⟩ v2).setCell ⟨B, 3, none⟩ v3).setCell ⟨B, 4, none⟩ v4).setCell ⟨B, 5, none⟩ v5).cell? ⟨B, 2, none⟩ = some v2 ∧ ((((((V.setCell ⟨B, 0, none⟩ v0).setCell ⟨B, 1, none⟩ v1).setCell ⟨B, 2, none⟩ v2).setCell ⟨B, 3, none⟩ v3).setCell ⟨B, 4, none⟩ v4).setCell ⟨B, 5, none⟩ v5).cell? ⟨B, 3, none⟩ = some v3 ∧ ((((((V.setCell ⟨B, 0, none⟩ v0).setCell ⟨B, 1, none⟩ v1).setCell ⟨B, 2, none⟩ v2).setCell ⟨B, 3, none⟩ v3).setCell ⟨B, 4, none⟩ v4).setCell ⟨B, 5, none⟩ v5).cell? ⟨B, 4, none⟩ = some v4 ∧ ((((((V.setCell ⟨B, 0, none⟩ v0).setCell ⟨B, 1, none⟩ v1).setCell ⟨B, 2, none⟩ v2).setCell ⟨B, 3, none⟩ v3).setCell ⟨B, 4, none⟩ v4).setCell ⟨B, 5, none⟩ v5).cell? ⟨B, 5, none⟩ = some v5 := by
  simp [go_sem, h0, h1, h2, h3, h4, h5]
theorem below_six {V w : World} {B : Nat} {v0 v1 v2 v3 v4 v5 : Value} (h : Below B w V) : Below B w ((((((V.setCell ⟨B, 0, none⟩ v0).setCell ⟨B, 1, none⟩ v1).setCell ⟨B, 2, none⟩ v2).setCell ⟨B, 3, none⟩ v3).setCell ⟨B, 4, none⟩ v4).setCell ⟨B, 5, none⟩ v5) :=
  (((((h.setCell (Nat.le_refl _) _).setCell (Nat.le_refl _) _).setCell (Nat.le_refl _) _).setCell (Nat.le_refl _) _).setCell (Nat.le_refl _) _).setCell (Nat.le_refl _) _
theorem get_world {wr w2 w4 : World} {v0 v1 v2 v3 v4 : Value} {T : TypeId} (B2 : Below wr.heap.size wr w2) (B4 : Below (w2.alloc (.cells #[v0, v1, v2, v3, v4] T)).heap.size (w2.alloc (.cells #[v0, v1, v2, v3, v4] T)) w4) :
    (w4.cell? ⟨w2.heap.size, 0, none⟩ = some v0 ∧ w4.cell? ⟨w2.heap.size, 1, none⟩ = some v1 ∧ w4.cell? ⟨w2.heap.size, 2, none⟩ = some v2 ∧ w4.cell? ⟨w2.heap.size, 3, none⟩ = some v3 ∧ w4.cell? ⟨w2.heap.size, 4, none⟩ = some v4) ∧
    (∀ (b i : Nat) (v : Value), b < wr.heap.size → wr.cell? ⟨b, i, none⟩ = some v → w4.cell? ⟨b, i, none⟩ = some v) ∧
    (∀ (b i : Nat), b < wr.heap.size → wr.frozen? ⟨b, i, none⟩ = false → w4.frozen? ⟨b, i, none⟩ = false) ∧
    w2.heap.size < w4.heap.size ∧ wr.heap.size ≤ w2.heap.size ∧ (∀ B, B ≤ wr.heap.size → Below B wr w4) := by
  have h2 := B2.size
  have h4 := B4.size
  simp at h4
  have C : ∀ (i : Nat) (v : Value), (w2.alloc (.cells #[v0, v1, v2, v3, v4] T)).cell? ⟨w2.heap.size, i, none⟩ = some v → w4.cell? ⟨w2.heap.size, i, none⟩ = some v := by
    intro i v hv
    rw [B4.cell (p := ⟨w2.heap.size, i, none⟩) (by simp)]
    exact hv
  refine ⟨⟨C _ _ (by simp [go_sem]), C _ _ (by simp [go_sem]), C _ _ (by simp [go_sem]), C _ _ (by simp [go_sem]), C _ _ (by simp [go_sem])⟩, ?_, ?_, by omega, h2, ?_⟩
  · intro b i v hb hv
    rw [B4.cell (p := ⟨b, i, none⟩) (by simp; omega), World.cell?_alloc_lt _ _ _ (by show b < _; omega), B2.cell (p := ⟨b, i, none⟩) hb]
    exact hv
  · intro b i hb hv
    rw [B4.frozen (p := ⟨b, i, none⟩) (by simp; omega), frozen?_alloc_cells, B2.frozen (p := ⟨b, i, none⟩) hb]
    exact hv
  · intro B hB
    exact ((B2.mono hB).alloc (by omega) _).trans (B4.mono (by simp; omega))

set_option maxRecDepth 100000 in
set_option maxHeartbeats 1000000 in
theorem rGet (x : Int) (hx : U32 x) (w : World) :
    Calls Try.prog 11 #[.int .u32 x] w fun e w' => ∃ s d a b m ok, e = .returned (.agg #[.string s, .int .i64 d, .int .i64 a, .int .i64 b, .int .i32 m, .bool ok]) ∧ toldOf x s d a b m ok ∧ Below w.heap.size w w' := by
  have Hx : Hid (U32 x) := hx
  obtain ⟨x0, x1⟩ := hx
  go_enter Try.func11, Try.ntmps11
  go_wp2_with fail
  refine (rOps _).mono ?_
  rintro e w1 ⟨g, cap, rfl, hg0, hg1, hb1, hcells⟩
  have HC : Hid (∀ k, k < 53 → w1.cell? ⟨g, k, none⟩ = some (.string (opAt k))) := hcells
  have HB1 : Hid (Below (w.alloc (.cells #[.string ⟨#[]⟩, .int .i64 0, .int .i64 0, .int .i64 0, .int .i32 0, .bool false] 34)).heap.size (w.alloc (.cells #[.string ⟨#[]⟩, .int .i64 0, .int .i64 0, .int .i64 0, .int .i32 0, .bool false] 34)) w1) := hb1
  clear hcells hb1 hg0
  go_wp2_with fail
  go_loopw [4] (fun i wr => ∃ k : Nat, k ≤ 53 ∧ i = .int .i64 k ∧ Hid (Below w1.heap.size w1 wr) ∧ noneOf x k) (fun i _ => 53 - (intOf i).toNat)
  case atStart => exact ⟨0, Nat.zero_le _, rfl, Below.refl _ _, fun j hj => absurd hj (Nat.not_lt_zero j)⟩
  case round =>
    obtain ⟨k, hk, rfl, hbr, hno⟩ := hrel
    obtain ⟨⟨t0, t1, t2, t3, t4, t5⟩, fz, bW, sz⟩ := told_cells HB1.out hbr.out
    have HW : Hid (Below w.heap.size w wr) := bW
    have hgr : g < wr.heap.size := by have := hbr.out.size; omega
    have HN : Hid (noneOf x k) := hno
    clear hno bW
    by_cases hlt : k < 53
    · have hcell : wr.cell? ⟨g, k, none⟩ = some (.string (opAt k)) := by
        rw [hbr.out.cell (p := ⟨g, k, none⟩) hg1]; exact HC.out k hlt
      have HR0 := rRead (opAt k) x Hx (kind_ne k hlt)
      rw [formV_opAt k hlt] at HR0
      have HP0 := rPut (opAt k) (readD (formAt k).2.k x) (readA (formAt k).2.k x) (readB (formAt k).2.k x) (readM (formAt k).2.k x)
      rw [opAt_form k hlt] at HP0
      have HI : Hid (insOf (formAt k) x = ⟨(opAt k).toList, readD (formAt k).2.k x, readA (formAt k).2.k x, readB (formAt k).2.k x, readM (formAt k).2.k x⟩) := by
        rw [opAt_form k hlt]; rfl
      have H3 := three_ways x Hx k hlt
      have HG : Hid (∀ hb : hasB (formAt k).2 x = true, getV x = some (insOf (formAt k) x)) := fun hb => find_at hlt HN.out hb
      have HP1 : ∀ w, Calls Try.prog 9 #[.agg #[.string (opAt k), .int .i64 (readD (formAt k).2.k x), .int .i64 (readA (formAt k).2.k x), .int .i64 (readB (formAt k).2.k x), .int .i32 (readM (formAt k).2.k x)]] w fun e w' => e = .returned (.agg #[.int .u32 (putN (insOf (formAt k) x)), .int .i64 (putE (insOf (formAt k) x))]) ∧ Below w.heap.size w w' := HP0
      clear HP0
      generalize readD (formAt k).2.k x = d at *
      generalize readA (formAt k).2.k x = a at *
      generalize readB (formAt k).2.k x = b at *
      generalize readM (formAt k).2.k x = m at *
      have HR : Hid (∀ w, Calls Try.prog 27 #[.string (opAt k), .int .u32 x] w fun e w' => e = .returned (.agg #[.string (opAt k), .int .i64 d, .int .i64 a, .int .i64 b, .int .i32 m]) ∧ Below w.heap.size w w') := HR0
      clear HR0
      rcases H3 with ⟨hh, hm, hp⟩ | ⟨hh, hm⟩ | ⟨hh, hm, hp⟩
      · have HP : Hid (∀ w, Calls Try.prog 9 #[.agg #[.string (opAt k), .int .i64 d, .int .i64 a, .int .i64 b, .int .i32 m]] w fun e w' => e = .returned (.agg #[.int .u32 x, .int .i64 0]) ∧ Below w.heap.size w w') := by
          unfold putN putE at HP1
          rw [hm, hp] at HP1
          exact HP1
        have HG2 : Hid (getV x = some ⟨(opAt k).toList, d, a, b, m⟩) := by
          show getV x = _
          rw [HG.out hh]; exact congrArg some HI.out
        clear HP1 hh hm hp HG HI
        go_wp2_with fail
        refine (HR _).mono ?_
        rintro e w2 ⟨rfl, B2⟩
        go_wp2_with fail
        refine (HP _).mono ?_
        rintro e w4 ⟨rfl, B4⟩
        obtain ⟨⟨b0, b1, b2, b3, b4⟩, CC, FF, s24, sr2, BB⟩ := get_world B2 B4
        have r0 := CC _ 0 _ sz t0
        have r1 := CC _ 1 _ sz t1
        have r2 := CC _ 2 _ sz t2
        have r3 := CC _ 3 _ sz t3
        have r4 := CC _ 4 _ sz t4
        have r5 := CC _ 5 _ sz t5
        have z0 := FF _ 0 sz (fz 0)
        have z1 := FF _ 1 sz (fz 1)
        have z2 := FF _ 2 sz (fz 2)
        have z3 := FF _ 3 sz (fz 3)
        have z4 := FF _ 4 sz (fz 4)
        have z5 := FF _ 5 sz (fz 5)
        have s4 : w.heap.size < w4.heap.size := by omega
        have HBB : Hid (∀ B, B ≤ wr.heap.size → Below B wr w4) := BB
        clear CC FF BB B2 B4 t0 t1 t2 t3 t4 t5 fz hcell
        go_wp2_with fail
        obtain ⟨y0, y1, y2, y3, y4, y5⟩ := told_put (v0 := .string (opAt k)) (v1 := .int .i64 d) (v2 := .int .i64 a) (v3 := .int .i64 b) (v4 := .int .i32 m) (v5 := .bool true) r0 r1 r2 r3 r4 r5
        have HF6 := below_six (v0 := .string (opAt k)) (v1 := .int .i64 d) (v2 := .int .i64 a) (v3 := .int .i64 b) (v4 := .int .i32 m) (v5 := .bool true) (HW.out.trans (HBB.out _ (by omega)))
        have sY := World.block_lt_of_cell? _ _ y0
        generalize (((((w4.setCell ⟨w.heap.size, 0, none⟩ (.string (opAt k))).setCell ⟨w.heap.size, 1, none⟩ (.int .i64 d)).setCell ⟨w.heap.size, 2, none⟩ (.int .i64 a)).setCell ⟨w.heap.size, 3, none⟩ (.int .i64 b)).setCell ⟨w.heap.size, 4, none⟩ (.int .i32 m)).setCell ⟨w.heap.size, 5, none⟩ (.bool true) = Y at *
        simp only at sY
        refine bodyPost_ret (v := .agg #[.string (opAt k), .int .i64 d, .int .i64 a, .int .i64 b, .int .i32 m, .bool true]) ?_ rfl ?_
        · simp [results, Try.results11, go_sem, y0, y1, y2, y3, y4, y5, sY]
        · exact ⟨_, _, _, _, _, _, rfl, Or.inl ⟨rfl, HG2.out⟩, HF6.alloc (Nat.le_of_lt sY) _⟩
      · have HP : Hid (∀ w, Calls Try.prog 9 #[.agg #[.string (opAt k), .int .i64 d, .int .i64 a, .int .i64 b, .int .i32 m]] w fun e w' => e = .returned (.agg #[.int .u32 0, .int .i64 1]) ∧ Below w.heap.size w w') := by
          unfold putN putE at HP1
          rw [hm] at HP1
          exact HP1
        have HN2 : Hid (noneOf x (k + 1)) := fun j hj => by
          rcases Nat.lt_succ_iff_lt_or_eq.mp hj with h | h
          · exact HN.out j h
          · rw [h]; exact hh
        clear HP1 hh hm HG HI
        go_wp2_with fail
        refine (HR _).mono ?_
        rintro e w2 ⟨rfl, B2⟩
        go_wp2_with fail
        refine (HP _).mono ?_
        rintro e w4 ⟨rfl, B4⟩
        obtain ⟨⟨b0, b1, b2, b3, b4⟩, CC, FF, s24, sr2, BB⟩ := get_world B2 B4
        have r0 := CC _ 0 _ sz t0
        have r1 := CC _ 1 _ sz t1
        have r2 := CC _ 2 _ sz t2
        have r3 := CC _ 3 _ sz t3
        have r4 := CC _ 4 _ sz t4
        have r5 := CC _ 5 _ sz t5
        have z0 := FF _ 0 sz (fz 0)
        have z1 := FF _ 1 sz (fz 1)
        have z2 := FF _ 2 sz (fz 2)
        have z3 := FF _ 3 sz (fz 3)
        have z4 := FF _ 4 sz (fz 4)
        have z5 := FF _ 5 sz (fz 5)
        have s4 : w.heap.size < w4.heap.size := by omega
        have HBB : Hid (∀ B, B ≤ wr.heap.size → Below B wr w4) := BB
        clear CC FF BB B2 B4 t0 t1 t2 t3 t4 t5 fz hcell
        go_wp2_with fail
        refine ⟨⟨k + 1, by omega, by go_num, ?_, HN2.out⟩, by simp [intOf]; omega⟩
        exact (hbr.out.trans (HBB.out _ (by have := hbr.out.size; omega))).alloc (by have := hbr.out.size; omega) _
      · generalize hpv : putV (insOf (formAt k) x) = pv at *
        have HP : Hid (∀ w, Calls Try.prog 9 #[.agg #[.string (opAt k), .int .i64 d, .int .i64 a, .int .i64 b, .int .i32 m]] w fun e w' => e = .returned (.agg #[.int .u32 pv, .int .i64 0]) ∧ Below w.heap.size w w') := by
          unfold putN putE at HP1
          rw [hm, hpv] at HP1
          exact HP1
        have HN2 : Hid (noneOf x (k + 1)) := fun j hj => by
          rcases Nat.lt_succ_iff_lt_or_eq.mp hj with h | h
          · exact HN.out j h
          · rw [h]; exact hh
        clear HP1 hh hm HG HI hpv
        go_wp2_with fail
        refine (HR _).mono ?_
        rintro e w2 ⟨rfl, B2⟩
        go_wp2_with fail
        refine (HP _).mono ?_
        rintro e w4 ⟨rfl, B4⟩
        obtain ⟨⟨b0, b1, b2, b3, b4⟩, CC, FF, s24, sr2, BB⟩ := get_world B2 B4
        have r0 := CC _ 0 _ sz t0
        have r1 := CC _ 1 _ sz t1
        have r2 := CC _ 2 _ sz t2
        have r3 := CC _ 3 _ sz t3
        have r4 := CC _ 4 _ sz t4
        have r5 := CC _ 5 _ sz t5
        have z0 := FF _ 0 sz (fz 0)
        have z1 := FF _ 1 sz (fz 1)
        have z2 := FF _ 2 sz (fz 2)
        have z3 := FF _ 3 sz (fz 3)
        have z4 := FF _ 4 sz (fz 4)
        have z5 := FF _ 5 sz (fz 5)
        have s4 : w.heap.size < w4.heap.size := by omega
        have HBB : Hid (∀ B, B ≤ wr.heap.size → Below B wr w4) := BB
        clear CC FF BB B2 B4 t0 t1 t2 t3 t4 t5 fz hcell
        go_wp2_with fail
        refine ⟨⟨k + 1, by omega, by go_num, ?_, HN2.out⟩, by simp [intOf]; omega⟩
        exact (hbr.out.trans (HBB.out _ (by have := hbr.out.size; omega))).alloc (by have := hbr.out.size; omega) _
    · have hk53 : k = 53 := by omega
      subst hk53
      go_wp2
      obtain ⟨y0, y1, y2, y3, y4, y5⟩ := told_put (v0 := .string ⟨#[]⟩) (v1 := .int .i64 0) (v2 := .int .i64 0) (v3 := .int .i64 0) (v4 := .int .i32 0) (v5 := .bool false) t0 t1 t2 t3 t4 t5
      have HF6 := below_six (v0 := .string ⟨#[]⟩) (v1 := .int .i64 0) (v2 := .int .i64 0) (v3 := .int .i64 0) (v4 := .int .i32 0) (v5 := .bool false) HW.out
      generalize (((((wr.setCell ⟨w.heap.size, 0, none⟩ (.string ⟨#[]⟩)).setCell ⟨w.heap.size, 1, none⟩ (.int .i64 0)).setCell ⟨w.heap.size, 2, none⟩ (.int .i64 0)).setCell ⟨w.heap.size, 3, none⟩ (.int .i64 0)).setCell ⟨w.heap.size, 4, none⟩ (.int .i32 0)).setCell ⟨w.heap.size, 5, none⟩ (.bool false) = Y at *
      refine bodyPost_ret (v := .agg #[.string ⟨#[]⟩, .int .i64 0, .int .i64 0, .int .i64 0, .int .i32 0, .bool false]) ?_ rfl ?_
      · simp [results, Try.results11, go_sem, y0, y1, y2, y3, y4, y5]
      · exact ⟨_, _, _, _, _, _, rfl, Or.inr ⟨rfl, rfl, rfl, rfl, rfl, rfl, find_not HN.out⟩, HF6⟩
end Go.Proofs.Ytbdfaepljgajbaa
