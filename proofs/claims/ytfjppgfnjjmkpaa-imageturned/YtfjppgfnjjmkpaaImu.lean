/-
  footmanref6: regions.
-/
import Derived.Test.YtfjppgfnjjmkpaaImt
import Derived.Test.YtfjppgfnjjmkpaaImn
namespace Go.Proofs.Ytfjppgfnjjmkpaa
open Go.RowKit

theorem run_mid {P : Program} {o : Oper} {a : Act} {w : World} (ty : TypeId) (x : Operand) (ho : o.op = .load ty x) (b k : Nat) (hx : a.eval x = .pointer (some ⟨b, k, none⟩)) (cs : Array Value) (d : TypeDesc) (hc : w.rangeAt b k cs.toList)
    (hu : P.underlying ty = some d) (hd : d.isRow = true) (hi : (P.info? ty).map (·.size) = some cs.size) : (execOp a.eval o).run P w = .ok (.value (.agg cs)) w := by
  unfold execOp
  have := run_loadVar_mid (P := P) w b k ty cs.toList d hc hu hd (by rw [Array.length_toList]; exact hi)
  rw [Array.toArray_toList] at this
  simp only [ho, hx, Instr.loadAt, Instr.sureAddr, Sem.run_bind, Sem.run_pure, Result.andThen_ok, this]
def rgC (r : Rg) : List Value := [.int .u32 r.lo, .int .u32 r.hi, .bool r.x, .bool r.w]
def regrow (l : List Rg) : List Value := l.flatMap rgC
theorem infoRr : (Try.prog.info? 25).map (fun i => (i.zero, i.size, i.bytes)) = some (some (.agg #[.int .u32 0, .int .u32 0, .bool false, .bool false]), 4, 12) := by kernel_rfl
/-- The regions gathered so far. -/
structure GatSt (w V : World) (i : Im) (v : Value) (k : Nat) : Prop where
  low : Below w.heap.size w V
  size : w.heap.size + 1 ≤ V.heap.size
  box : V.heap[w.heap.size]? = some (.cells i.cells 28)
  own : V.ownsRow (w.heap.size + 1) 25 4 v (2 + 2 * k) (regrow (i.kern :: i.keys :: (i.ps.take k).flatMap fun p => [p.code, p.data]))
theorem gat_next {w V W3 W4 : World} {i : Im} {v v' : Value} {k : Nat} {p : Pt} (h : GatSt w V i v k) (hx : i.ps[k]? = some p) (hV : Below V.heap.size V W3)
    (hg : W3.grownBy W4 v.ownBlock) (ho : W4.ownsRow (w.heap.size + 1) 25 4 v' (2 + 2 * k + 2) (regrow (i.kern :: i.keys :: (i.ps.take k).flatMap fun p => [p.code, p.data]) ++ (rgC p.code ++ rgC p.data))) :
    GatSt w W4 i v' (k + 1) := by
  have hsz := h.size
  have l3 := hV.size
  have b3 : Below w.heap.size w W3 := below_step h.low hV
  have b4 : Below w.heap.size w W4 := by
    cases hov : v.ownBlock with
    | none => exact below_grown (b := w.heap.size) b3 ⟨hg.os, hg.tape, hg.output, hg.size, fun q hq _ => hg.block q hq (by rw [hov]; simp)⟩ b3.size (Nat.le_refl _)
    | some q =>
      rw [hov] at hg
      exact below_grown b3 hg b3.size (by have := (owns_lt2 h.own q hov).1; omega)
  refine ⟨b4, by have := hg.size; omega, ?_, ?_⟩
  · rw [hg.block _ (by omega) (fun e => by have := (owns_lt2 h.own _ e.symm).1; omega)]
    exact kept_on h.box hV
  · have e : (i.ps.take (k + 1)).flatMap (fun p => [p.code, p.data]) = (i.ps.take k).flatMap (fun p => [p.code, p.data]) ++ [p.code, p.data] := by
      rw [take_more hx, List.flatMap_append]
      simp
    rw [e, show 2 + 2 * (k + 1) = 2 + 2 * k + 2 by omega]
    have e2 : regrow (i.kern :: i.keys :: ((i.ps.take k).flatMap (fun p => [p.code, p.data]) ++ [p.code, p.data])) = regrow (i.kern :: i.keys :: (i.ps.take k).flatMap fun p => [p.code, p.data]) ++ (rgC p.code ++ rgC p.data) := by
      unfold regrow
      simp [List.flatMap_cons, List.flatMap_append]
    rw [e2]
    exact ho
set_option maxRecDepth 100000 in
set_option maxHeartbeats 4000000 in
theorem rRegions {w : World} {i : Im} {b off : Nat} (hp : PartsAt w b off i.pa i.ps) (hfew : i.ps.length ≤ 1000) :
    Calls Try.prog 23 #[.agg i.cells] w fun e w' => ∃ v, e = .returned v ∧ GatSt w w' i v i.ps.length := by
  have HP : Hid _ := hp
  obtain ⟨fr, hfr⟩ := undRg
  have HFR : Hid _ := hfr
  have A1 : Below w.heap.size w (w.alloc (.cells i.cells 28)) := (Below.refl _ _).alloc (Nat.le_refl _) _
  have R1 : Hid ((w.alloc (.cells i.cells 28)).rangeAt w.heap.size 1 [.int .u32 i.kern.lo, .int .u32 i.kern.hi, .bool i.kern.x, .bool i.kern.w]) := range_of (alloc_at w _) (fun j v hv => by
    match j, hv with
    | 0, hv => exact hv
    | 1, hv => exact hv
    | 2, hv => exact hv
    | 3, hv => exact hv)
  have R5 : Hid ((w.alloc (.cells i.cells 28)).rangeAt w.heap.size 5 [.int .u32 i.keys.lo, .int .u32 i.keys.hi, .bool i.keys.x, .bool i.keys.w]) := range_of (alloc_at w _) (fun j v hv => by
    match j, hv with
    | 0, hv => exact hv
    | 1, hv => exact hv
    | 2, hv => exact hv
    | 3, hv => exact hv)
  have ST0 : Hid (GatSt w ((w.alloc (.cells i.cells 28)).alloc (.cells #[.int .u32 i.kern.lo, .int .u32 i.kern.hi, .bool i.kern.x, .bool i.kern.w, .int .u32 i.keys.lo, .int .u32 i.keys.hi, .bool i.keys.x, .bool i.keys.w] 25)) i (.slice (some ⟨w.heap.size + 1, 0, none⟩) 2 2) 0) := by
    have A2 : Below (w.alloc (.cells i.cells 28)).heap.size (w.alloc (.cells i.cells 28)) ((w.alloc (.cells i.cells 28)).alloc (.cells #[.int .u32 i.kern.lo, .int .u32 i.kern.hi, .bool i.kern.x, .bool i.kern.w, .int .u32 i.keys.lo, .int .u32 i.keys.hi, .bool i.keys.x, .bool i.keys.w] 25)) := (Below.refl _ _).alloc (Nat.le_refl _) _
    refine ⟨below_step A1 A2, by rw [World.size_alloc, World.size_alloc]; omega, kept_on (alloc_at _ _) A2, ?_⟩
    have := World.ownsRow_lit (base := w.heap.size + 1) (e := 25) (size := 4) (w.alloc (.cells i.cells 28)) #[.int .u32 i.kern.lo, .int .u32 i.kern.hi, .bool i.kern.x, .bool i.kern.w, .int .u32 i.keys.lo, .int .u32 i.keys.hi, .bool i.keys.x, .bool i.keys.w] 2 (by rw [World.size_alloc]; exact Nat.le_refl _) (by decide) rfl
    rw [World.size_alloc] at this
    exact this
  have C9 : Hid (∀ V : World, V.heap[w.heap.size]? = some (.cells i.cells 28) → V.cell? ⟨w.heap.size, 9, none⟩ = some (.slice i.pa i.ps.length i.pc)) := fun V hV => (cells_of hV).1 9 _ rfl
  clear hp hfr A1
  have hmo : Try.prog.follows .mixedOrders = true := by kernel_rfl
  generalize hln : i.ps.length = n at *
  have HLN : Hid (i.ps.length = n) := hln
  clear hln
  go_enter Try.func23, Try.ntmps23
  go_wp2_with (first | (refine wpList_mids (by rfl) 25 (.tmp 5) rfl w.heap.size 1 rfl #[.int .u32 i.kern.lo, .int .u32 i.kern.hi, .bool i.kern.x, .bool i.kern.w] _ R1.out HFR.out rfl infoRg ?_) | (refine wpList_mids (by rfl) 25 (.tmp 7) rfl w.heap.size 5 rfl #[.int .u32 i.keys.lo, .int .u32 i.keys.hi, .bool i.keys.x, .bool i.keys.w] _ R5.out HFR.out rfl infoRg ?_))
  go_loopw [3, 4] (fun y x wr => ∃ (k : Nat) (v : Value) (V : World), V = wr ∧ k ≤ n ∧ x = .int .i64 k ∧ y = v ∧ Hid (GatSt w V i v k)) (fun _ x _ => n - (intOf x).toNat)
  case atStart => exact ⟨0, _, _, rfl, Nat.zero_le _, rfl, rfl, ST0.out⟩
  case round =>
    clear ST0 R1 R5
    obtain ⟨k, v, V, rfl, hk, rfl, rfl, hr⟩ := hrel
    have c9 := C9.out V hr.out.box
    by_cases hlt : k < n
    · obtain ⟨p, hx⟩ : ∃ p, i.ps[k]? = some p := ⟨_, List.getElem?_eq_getElem (by rw [HLN.out]; exact hlt)⟩
      have HX : Hid _ := hx
      have I1 := HP.out.below hr.out.low
      obtain ⟨ea, hb⟩ := I1.at' (I1.lt hx)
      rw [ea] at c9
      have FACT : Hid (∀ U : World, Below w.heap.size w U → U.heap[w.heap.size]? = some (.cells i.cells 28) → U.cell? ⟨w.heap.size, 9, none⟩ = some (.slice (some ⟨b, off, none⟩) n i.pc) ∧ U.rangeAt b (off + k * 11 + 1) [.int .u32 p.code.lo, .int .u32 p.code.hi, .bool p.code.x, .bool p.code.w] ∧ U.rangeAt b (off + k * 11 + 5) [.int .u32 p.data.lo, .int .u32 p.data.hi, .bool p.data.x, .bool p.data.w]) := fun U hU hbx => by
        have c9' := C9.out U hbx
        rw [ea] at c9'
        have rw1 := (HP.out.below hU).row k p HX.out
        exact ⟨c9', fun j u hu => by
        have := rw1 (1 + j) u (by
          match j, hu with
          | 0, hu => exact hu
          | 1, hu => exact hu
          | 2, hu => exact hu
          | 3, hu => exact hu)
        rw [show off + k * 11 + 1 + j = off + k * 11 + (1 + j) by omega]
        exact this, fun j u hu => by
        have := rw1 (5 + j) u (by
          match j, hu with
          | 0, hu => exact hu
          | 1, hu => exact hu
          | 2, hu => exact hu
          | 3, hu => exact hu)
        rw [show off + k * 11 + 5 + j = off + k * 11 + (5 + j) by omega]
        exact this⟩
      have k0 : (0 : Int) ≤ (k : Int) := by omega
      have k1 : (k : Int) < (n : Int) := by omega
      clear hb hx ea I1
      obtain ⟨sa, cp, rfl⟩ := own_sl hr.out.own
      go_wp2_with fail
      refine wp_region_phase 15 (fun q w' => q = false → w'.cell? ⟨w.heap.size, 9, none⟩ = some (.slice (some ⟨b, off, none⟩) n i.pc) ∧ w'.rangeAt b (off + k * 11 + 1) [.int .u32 p.code.lo, .int .u32 p.code.hi, .bool p.code.x, .bool p.code.w] ∧ w'.rangeAt b (off + k * 11 + 5) [.int .u32 p.data.lo, .int .u32 p.data.hi, .bool p.data.x, .bool p.data.w]) hmo (fun _ => FACT.out V.drew hr.out.low.drew hr.out.box) (fun hHeld => ?_)
      have hHeld := hHeld rfl
      first
        | refine ptake_read 0 (some 17) (v := ?_) rfl rfl (by kernel_rfl) (by kernel_rfl) (by kernel_rfl) rfl (by kernel_rfl) (fun _ _ _ h => h) (by kernel_rfl) (Or.inl ⟨by rfl, ?_⟩) (fun _ => hHeld) ?_
        | refine ptake_pure 0 (some 17) (v := ?_) rfl rfl (by kernel_rfl) (by kernel_rfl) (by kernel_rfl) rfl (fun _ _ _ h => h) (Or.inl ⟨by rfl, ?_⟩) (fun _ => hHeld) ?_
      rotate_left
      · intro w' hSw
        clear hSw
        go_simp
        try with_reducible rfl
      simp only [Act.put, List.setIfInBounds_toArray, List.set_cons_zero, List.set_cons_succ]
      first
        | refine ptake_read 1 (some 18) (v := ?_) rfl rfl (by kernel_rfl) (by kernel_rfl) (by kernel_rfl) rfl (by kernel_rfl) (fun _ _ _ h => h) (by kernel_rfl) (Or.inl ⟨by rfl, ?_⟩) (fun _ => hHeld) ?_
        | refine ptake_pure 1 (some 18) (v := ?_) rfl rfl (by kernel_rfl) (by kernel_rfl) (by kernel_rfl) rfl (fun _ _ _ h => h) (Or.inl ⟨by rfl, ?_⟩) (fun _ => hHeld) ?_
      rotate_left
      · intro w' hSw
        clear hSw
        go_simp
        try with_reducible rfl
      simp only [Act.put, List.setIfInBounds_toArray, List.set_cons_zero, List.set_cons_succ]
      first
        | refine ptake_read 2 (some 19) (v := ?_) rfl rfl (by kernel_rfl) (by kernel_rfl) (by kernel_rfl) rfl (by kernel_rfl) (fun _ _ _ h => h) (by kernel_rfl) (Or.inl ⟨by rfl, ?_⟩) (fun _ => hHeld) ?_
        | refine ptake_pure 2 (some 19) (v := ?_) rfl rfl (by kernel_rfl) (by kernel_rfl) (by kernel_rfl) rfl (fun _ _ _ h => h) (Or.inl ⟨by rfl, ?_⟩) (fun _ => hHeld) ?_
      rotate_left
      · intro w' hSw
        have q2 := (hSw rfl).1
        clear hSw
        go_simp
        try with_reducible rfl
      simp only [Act.put, List.setIfInBounds_toArray, List.set_cons_zero, List.set_cons_succ]
      first
        | refine ptake_read 3 (some 20) (v := ?_) rfl rfl (by kernel_rfl) (by kernel_rfl) (by kernel_rfl) rfl (by kernel_rfl) (fun _ _ _ h => h) (by kernel_rfl) (Or.inl ⟨by rfl, ?_⟩) (fun _ => hHeld) ?_
        | refine ptake_pure 3 (some 20) (v := ?_) rfl rfl (by kernel_rfl) (by kernel_rfl) (by kernel_rfl) rfl (fun _ _ _ h => h) (Or.inl ⟨by rfl, ?_⟩) (fun _ => hHeld) ?_
      rotate_left
      · intro w' hSw
        clear hSw
        go_simp
        try with_reducible rfl
      simp only [Act.put, List.setIfInBounds_toArray, List.set_cons_zero, List.set_cons_succ]
      first
        | refine ptake_read 4 (some 21) (v := ?_) rfl rfl (by kernel_rfl) (by kernel_rfl) (by kernel_rfl) rfl (by kernel_rfl) (fun _ _ _ h => h) (by kernel_rfl) (Or.inl ⟨by rfl, ?_⟩) (fun _ => hHeld) ?_
        | refine ptake_pure 4 (some 21) (v := ?_) rfl rfl (by kernel_rfl) (by kernel_rfl) (by kernel_rfl) rfl (fun _ _ _ h => h) (Or.inl ⟨by rfl, ?_⟩) (fun _ => hHeld) ?_
      rotate_left
      · intro w' hSw
        clear hSw
        go_simp
        try with_reducible rfl
      simp only [Act.put, List.setIfInBounds_toArray, List.set_cons_zero, List.set_cons_succ]
      first
        | refine ptake_read 5 (some 22) (v := ?_) rfl rfl (by kernel_rfl) (by kernel_rfl) (by kernel_rfl) rfl (by kernel_rfl) (fun _ _ _ h => h) (by kernel_rfl) (Or.inl ⟨by rfl, ?_⟩) (fun _ => hHeld) ?_
        | refine ptake_pure 5 (some 22) (v := ?_) rfl rfl (by kernel_rfl) (by kernel_rfl) (by kernel_rfl) rfl (fun _ _ _ h => h) (Or.inl ⟨by rfl, ?_⟩) (fun _ => hHeld) ?_
      rotate_left
      · intro w' hSw
        clear hSw
        go_simp
        try with_reducible rfl
      simp only [Act.put, List.setIfInBounds_toArray, List.set_cons_zero, List.set_cons_succ]
      refine ptake_read 6 (some 23) (v := .agg #[.int .u32 p.code.lo, .int .u32 p.code.hi, .bool p.code.x, .bool p.code.w]) rfl rfl (by kernel_rfl) (by kernel_rfl) (by kernel_rfl) rfl (by kernel_rfl) (fun _ _ _ h => h) (by kernel_rfl) (Or.inl ⟨by rfl, fun w' hSw => run_mid 25 (.tmp 22) rfl b (off + k * 11 + 1) rfl #[.int .u32 p.code.lo, .int .u32 p.code.hi, .bool p.code.x, .bool p.code.w] _ (hSw rfl).2.1 HFR.out rfl infoRg⟩) (fun _ => hHeld) ?_
      simp only [Act.put, List.setIfInBounds_toArray, List.set_cons_zero, List.set_cons_succ]
      first
        | refine ptake_read 7 (some 24) (v := ?_) rfl rfl (by kernel_rfl) (by kernel_rfl) (by kernel_rfl) rfl (by kernel_rfl) (fun _ _ _ h => h) (by kernel_rfl) (Or.inl ⟨by rfl, ?_⟩) (fun _ => hHeld) ?_
        | refine ptake_pure 7 (some 24) (v := ?_) rfl rfl (by kernel_rfl) (by kernel_rfl) (by kernel_rfl) rfl (fun _ _ _ h => h) (Or.inl ⟨by rfl, ?_⟩) (fun _ => hHeld) ?_
      rotate_left
      · intro w' hSw
        clear hSw
        go_simp
        try with_reducible rfl
      simp only [Act.put, List.setIfInBounds_toArray, List.set_cons_zero, List.set_cons_succ]
      first
        | refine ptake_read 8 (some 25) (v := ?_) rfl rfl (by kernel_rfl) (by kernel_rfl) (by kernel_rfl) rfl (by kernel_rfl) (fun _ _ _ h => h) (by kernel_rfl) (Or.inl ⟨by rfl, ?_⟩) (fun _ => hHeld) ?_
        | refine ptake_pure 8 (some 25) (v := ?_) rfl rfl (by kernel_rfl) (by kernel_rfl) (by kernel_rfl) rfl (fun _ _ _ h => h) (Or.inl ⟨by rfl, ?_⟩) (fun _ => hHeld) ?_
      rotate_left
      · intro w' hSw
        have q2 := (hSw rfl).1
        clear hSw
        go_simp
        try with_reducible rfl
      simp only [Act.put, List.setIfInBounds_toArray, List.set_cons_zero, List.set_cons_succ]
      first
        | refine ptake_read 9 (some 26) (v := ?_) rfl rfl (by kernel_rfl) (by kernel_rfl) (by kernel_rfl) rfl (by kernel_rfl) (fun _ _ _ h => h) (by kernel_rfl) (Or.inl ⟨by rfl, ?_⟩) (fun _ => hHeld) ?_
        | refine ptake_pure 9 (some 26) (v := ?_) rfl rfl (by kernel_rfl) (by kernel_rfl) (by kernel_rfl) rfl (fun _ _ _ h => h) (Or.inl ⟨by rfl, ?_⟩) (fun _ => hHeld) ?_
      rotate_left
      · intro w' hSw
        clear hSw
        go_simp
        try with_reducible rfl
      simp only [Act.put, List.setIfInBounds_toArray, List.set_cons_zero, List.set_cons_succ]
      first
        | refine ptake_read 10 (some 27) (v := ?_) rfl rfl (by kernel_rfl) (by kernel_rfl) (by kernel_rfl) rfl (by kernel_rfl) (fun _ _ _ h => h) (by kernel_rfl) (Or.inl ⟨by rfl, ?_⟩) (fun _ => hHeld) ?_
        | refine ptake_pure 10 (some 27) (v := ?_) rfl rfl (by kernel_rfl) (by kernel_rfl) (by kernel_rfl) rfl (fun _ _ _ h => h) (Or.inl ⟨by rfl, ?_⟩) (fun _ => hHeld) ?_
      rotate_left
      · intro w' hSw
        clear hSw
        go_simp
        try with_reducible rfl
      simp only [Act.put, List.setIfInBounds_toArray, List.set_cons_zero, List.set_cons_succ]
      first
        | refine ptake_read 11 (some 28) (v := ?_) rfl rfl (by kernel_rfl) (by kernel_rfl) (by kernel_rfl) rfl (by kernel_rfl) (fun _ _ _ h => h) (by kernel_rfl) (Or.inl ⟨by rfl, ?_⟩) (fun _ => hHeld) ?_
        | refine ptake_pure 11 (some 28) (v := ?_) rfl rfl (by kernel_rfl) (by kernel_rfl) (by kernel_rfl) rfl (fun _ _ _ h => h) (Or.inl ⟨by rfl, ?_⟩) (fun _ => hHeld) ?_
      rotate_left
      · intro w' hSw
        clear hSw
        go_simp
        try with_reducible rfl
      simp only [Act.put, List.setIfInBounds_toArray, List.set_cons_zero, List.set_cons_succ]
      refine ptake_read 12 (some 29) (v := .agg #[.int .u32 p.data.lo, .int .u32 p.data.hi, .bool p.data.x, .bool p.data.w]) rfl rfl (by kernel_rfl) (by kernel_rfl) (by kernel_rfl) rfl (by kernel_rfl) (fun _ _ _ h => h) (by kernel_rfl) (Or.inl ⟨by rfl, fun w' hSw => run_mid 25 (.tmp 28) rfl b (off + k * 11 + 5) rfl #[.int .u32 p.data.lo, .int .u32 p.data.hi, .bool p.data.x, .bool p.data.w] _ (hSw rfl).2.2 HFR.out rfl infoRg⟩) (fun _ => hHeld) ?_
      simp only [Act.put, List.setIfInBounds_toArray, List.set_cons_zero, List.set_cons_succ]
      obtain ⟨W3, hW3⟩ : ∃ W3, W3 = V.drew.alloc (.cells #[.int .u32 p.code.lo, .int .u32 p.code.hi, .bool p.code.x, .bool p.code.w, .int .u32 p.data.lo, .int .u32 p.data.hi, .bool p.data.x, .bool p.data.w] 25) := ⟨_, rfl⟩
      have B3 : Below V.drew.heap.size V.drew W3 := by rw [hW3]; exact (Below.refl _ _).alloc (Nat.le_refl _) _
      have B3' : Below V.heap.size V W3 := (Below.refl V.heap.size V).drew.trans B3
      have NP : W3.heap[V.heap.size]? = some (.cells #[.int .u32 p.code.lo, .int .u32 p.code.hi, .bool p.code.x, .bool p.code.w, .int .u32 p.data.lo, .int .u32 p.data.hi, .bool p.data.x, .bool p.data.w] 25) := by rw [hW3]; exact alloc_at V.drew _
      have O3 : W3.ownsRow (w.heap.size + 1) 25 4 (.slice sa (2 + 2 * k) cp) (2 + 2 * k) (regrow (i.kern :: i.keys :: (i.ps.take k).flatMap fun p => [p.code, p.data])) := by rw [hW3]; exact hr.out.own.drew.alloc _
      refine pturn 13 (some 30) (v := .slice (some ⟨V.heap.size, 0, none⟩) 2 2) (w' := W3) rfl rfl (by rfl) (by kernel_rfl) (by rw [hW3]; simp [execOp, go_sem, Result.andThen]) (fun _ => FACT.out W3 (below_step hr.out.low B3') (kept_on hr.out.box B3')) ?_
      simp only [Act.put, List.setIfInBounds_toArray, List.set_cons_zero, List.set_cons_succ]
      obtain ⟨i0, hi0, hz0, hz1, hz2⟩ := info_parts infoRr
      obtain ⟨v', W4, hrun, ho, hg, _, _⟩ := run_append_own_at (P := Try.prog) W3 (w.heap.size + 1) 37 37 25 i0 _ 4 12 Try.underlying37 hi0 hz0 hz1 hz2 rfl (by decide) (.slice sa (2 + 2 * k) cp) (2 + 2 * k) _ O3 ⟨V.heap.size, 0, none⟩ 2 2 (rgC p.code ++ rgC p.data) rfl (fun a u hu => by
          rw [show (⟨V.heap.size, 0, none⟩ : Addr).add a = ⟨V.heap.size, a, none⟩ by rw [Addr.add_lit]; simp]
          exact (cells_of NP).1 a u (by rw [← Array.getElem?_toList]; exact hu)) (fun u hu => by
          simp [rgC] at hu
          rcases hu with rfl | rfl | rfl | rfl | rfl | rfl | rfl | rfl <;> rfl) (by unfold maxLen; omega) (by omega) (by have := hr.out.size; have := B3'.size; omega)
      have ST : Hid _ := gat_next hr.out HX.out B3' hg ho
      refine pturn 14 (some 31) (v := v') (w' := W4) rfl rfl (by rfl) (by kernel_rfl) (run_app2 rfl rfl rfl hrun) (fun _ => FACT.out W4 ST.out.low ST.out.box) ?_
      simp only [Act.put, List.setIfInBounds_toArray, List.set_cons_zero, List.set_cons_succ]
      refine pturn 15 (some 3) (v := v') (w' := W4) rfl rfl (by rfl) (by kernel_rfl) (by simp [execOp, go_sem]) (fun h => by cases h) ?_
      simp only [Act.put, List.setIfInBounds_toArray, List.set_cons_zero, List.set_cons_succ]
      refine pdone (by kernel_rfl) ?_ _
      refine NoPanic.normal ?_
      clear hHeld hrun hg ho hr NP O3 hW3
      go_wp2_with fail
      exact ⟨⟨k + 1, _, _, rfl, by omega, by go_num, rfl, ST.out⟩, by simp [intOf]; omega⟩
    · have hkn : k = n := by omega
      subst hkn
      have k1 : ¬ (k : Int) < (k : Int) := by omega
      go_wp2_with fail
      go_ret
      exact ⟨_, rfl, hr.out⟩
end Go.Proofs.Ytfjppgfnjjmkpaa
