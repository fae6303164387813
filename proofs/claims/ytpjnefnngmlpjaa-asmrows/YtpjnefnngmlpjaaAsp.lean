/-
  Package asm: item, of space.
-/
import Derived.Test.YtpjnefnngmlpjaaAso
namespace Go.Proofs.Ytpjnefnngmlpjaa
open Go.RowKit

theorem app_zeros {w : World} {B : Nat} {ty : TypeId} {wv : Value} {ws : List Int} (N : Nat) (ho : w.ownsRow B 22 1 wv ws.length (wrow ws)) (hN : N ≤ 1000000000) (hn : ws.length ≤ 1000000000) (hB : B ≤ w.heap.size) :
    ∃ v' w1, (Builtin.append_ #[32, 22] ty #[wv, .int .u32 N]).run Try.prog w = .ok v' w1 ∧ w1.ownsRow B 22 1 v' (ws.length + N) (wrow ws ++ wrow (List.replicate N 0)) ∧ w.grownBy w1 wv.ownBlock ∧ (v'.ownBlock = wv.ownBlock ∨ v'.ownBlock = some w.heap.size) := by
  obtain ⟨i0, hi0, hz0, hz1, hz2⟩ := info_parts infoU
  have ut : Try.prog.underlying 32 = some (.slice 22) := Try.underlying32
  have un : Try.prog.underlying 22 = some (.int .u32) := Try.underlying22
  have hml : ws.length + N ≤ maxLen := by unfold maxLen; omega
  have hwl : (wrow ws).length = ws.length := by simp [wrow]
  by_cases h0 : N = 0
  · subst h0
    refine ⟨wv, w, ?_, by simpa [wrow] using ho, ⟨rfl, rfl, rfl, Nat.le_refl _, fun _ _ _ => rfl⟩, .inl rfl⟩
    have hw : IntKind.i64.wrap (0 : Int) = 0 := rfl
    obtain ⟨_, ⟨rfl, _⟩ | ⟨g, cap, cur, rfl, _, _, hnc, _⟩⟩ := ho
    · simp [Builtin.append_, run_underlying ut, run_underlying un, sizeOf, typeInfo, hi0, hz2, asInt, asIntOf, hw]
    · simp [Builtin.append_, run_underlying ut, run_underlying un, sizeOf, typeInfo, hi0, hz2, asInt, asIntOf, hw, hnc, storeCells]
  have hp : 0 < N := by omega
  have grown : ∀ (old : Nat) (row : Option Nat),
      (w.drew.alloc (.cells ((wrow ws).toArray ++ (zrow N).toArray ++ Builtin.zeroCells #[Value.int .u32 0] (grownCap w (ws.length + N) old 22 - (ws.length + N))) 22)).ownsRow B 22 1
        (.slice (some ⟨w.heap.size, 0, none⟩) (ws.length + N) (grownCap w (ws.length + N) old 22)) (ws.length + N) (wrow ws ++ zrow N) ∧
      w.grownBy (w.drew.alloc (.cells ((wrow ws).toArray ++ (zrow N).toArray ++ Builtin.zeroCells #[Value.int .u32 0] (grownCap w (ws.length + N) old 22 - (ws.length + N))) 22)) row := by
    intro old row
    have hge := grownCap_ge w (ws.length + N) old 22
    have hcm := grownCap_le_maxLen w (ws.length + N) old 22 hml
    have hl : (wrow ws ++ zrow N).length = (ws.length + N) * 1 := by rw [List.length_append, hwl, zrow_len, Nat.mul_one]
    refine ⟨⟨hl, .inr ⟨w.heap.size, _, _, rfl, hB, heap_alloc_new w.drew _, hge, hcm, ?_, ?_⟩⟩, ⟨rfl, rfl, rfl, by simp, fun k hk _ => heap_alloc_old w.drew _ hk⟩⟩
    · simp only [Array.size_append, List.size_toArray, size_zeroCells, hwl, zrow_len]
      show ws.length + N + (grownCap w (ws.length + N) old 22 - (ws.length + N)) * 1 = _
      omega
    · simp only [Array.toList_append, List.append_assoc]
      rw [← List.append_assoc, ← hl]
      exact List.take_left
  have ho' := ho
  obtain ⟨hlen, ⟨rfl, hx⟩ | ⟨g, cap, cur, rfl, hbg, hg, hnc, hcm, hcs, htake⟩⟩ := ho
  · have hws : ws = [] := List.eq_nil_of_length_eq_zero hx
    subst hws
    have hr := Lib.run_append_nil_zeros (P := Try.prog) w 32 22 ty 22 i0 (.int .u32 0) .u32 .u32 ut un hi0 hz0 N hp (by omega) (by omega) (by rw [hz2]; omega)
    have hgr := grown 0 none
    simp only [List.length_nil, Nat.zero_add] at hgr ⊢
    have e : ((wrow ([] : List Int)).toArray ++ (zrow N).toArray ++ Builtin.zeroCells #[Value.int .u32 0] (grownCap w N 0 22 - N)) = (Builtin.zeroCells (Value.int .u32 0).cells N ++ Builtin.zeroCells (Value.int .u32 0).cells (grownCap w N 0 22 - N)) := by
      show _ = Builtin.zeroCells #[Value.int .u32 0] N ++ Builtin.zeroCells #[Value.int .u32 0] (grownCap w N 0 22 - N)
      rw [zero_cells N]
      simp [wrow]
    rw [e] at hgr
    exact ⟨_, _, hr, hgr.1, hgr.2, .inr rfl⟩
  · by_cases hroom : ws.length + N ≤ cap
    · have hfit : ws.length + N ≤ cur.size := by omega
      have hr := run_zeros_room (P := Try.prog) w 32 22 ty 22 i0 ut un hi0 hz0 hz1 hz2 g ws.length cap cur hg N hp (by omega) hroom hfit
      refine ⟨_, _, hr, ⟨?_, .inr ⟨g, cap, _, rfl, hbg, setRow_heap w g cur _ 22 _ hg, hroom, hcm, ?_, ?_⟩⟩, ⟨rfl, rfl, rfl, by simp, fun k _ hk => setRow_other w g k _ (fun e => hk (by simp [Value.ownBlock, e]))⟩, .inl rfl⟩
      · show (wrow ws ++ zrow N).length = _
        rw [List.length_append, hwl, zrow_len, Nat.mul_one]
      · simp only [List.size_toArray, List.length_append, List.length_take, List.length_drop, Array.length_toList, zrow_len]
        omega
      · have ht : cur.toList.take ws.length = wrow ws := by
          have := htake
          rw [Nat.mul_one] at this
          exact this
        rw [ht]
        rw [show (ws.length + N) * 1 = (wrow ws ++ zrow N).length by rw [List.length_append, hwl, zrow_len, Nat.mul_one]]
        exact List.take_left
    · have holds : ∀ j u, (wrow ws)[j]? = some u → w.cell? ((⟨g, 0, none⟩ : Addr).add j) = some u := ho'.cells (g := g) rfl
      have hr := run_zeros_grow (P := Try.prog) w 32 22 ty 22 i0 ut un hi0 hz0 hz1 hz2 ⟨g, 0, none⟩ ws.length cap (wrow ws) hwl holds N hp (by omega) (by omega) (by omega) (growslice_fits (by omega) (by omega))
      have hgr := grown cap (Value.ownBlock (.slice (some ⟨g, 0, none⟩) ws.length cap))
      exact ⟨_, _, hr, hgr.1, hgr.2, .inr rfl⟩
set_option maxRecDepth 100000 in
set_option maxHeartbeats 2000000 in
theorem aItemSpace {w : World} {wb pb gb B n b off : Nat} {sa : Option Addr} {cap g gf : Nat} {base : Int} {xs : List It} {sf : Nat → Int} {wv sv : Value} {ws : List Int} {ss : List (ByteArray × Int)} (hp : ProgAt w pb b off sa cap g gf base xs) (hl : xs.length ≤ 1000000) (h : WrAt w wb pb gb B n sf wv sv ws ss) (hn : ws.length < 1000000000) (k : Nat) (x : It) (hx : xs[k]? = some x) (hk : x.kind = 8) (N : Nat) (hks : x.n = (N : Int)) (hkl1 : N ≤ 1000000000) :
    Calls Try.prog 55 #[.pointer (some ⟨wb, 0, none⟩), .int .i64 k] w fun e w' => e = .returned (.tuple #[]) ∧ ∃ wv', WrAt w' wb pb gb B n sf wv' sv (ws ++ List.replicate N 0) ss ∧ Low wb w w' := by
  have hkl : k < xs.length := (List.getElem?_eq_some_iff.1 hx).1
  have H0 : Hid _ := h
  have HN : Hid (ws.length < 1000000000) := hn
  have HKL : Hid (N ≤ 1000000000) := hkl1
  have HKS : Hid _ := hks
  have hmo : Try.prog.follows .mixedOrders = true := by kernel_rfl
  have c1 := hp.slice
  have c2 : w.cell? ⟨wb, 0, none⟩ = some (.pointer (some ⟨pb, 0, none⟩)) := (cells_of h.blk).1 0 _ rfl
  obtain ⟨ea, hb⟩ := hp.its.at' (by omega)
  subst ea
  have HR : Hid _ := hp.its.row k x hx
  obtain ⟨fi, hfi⟩ := undIt
  have HFI : Hid _ := hfi
  have k0 : (0 : Int) ≤ (k : Int) := by omega
  have k1 : (k : Int) < (xs.length : Int) := by omega
  clear h hp hb hx hfi hn hks hkl1
  generalize xs.length = nx at *
  go_enter Try.func55, Try.ntmps55
  go_wp2_with (first | (refine wpList_mids (by rfl) 34 (.tmp 13) rfl b (off + k * 9) rfl x.cells _ HR.out HFI.out rfl (by rw [It.size]; exact infoIt) ?_) | (refine wpList_fill rfl 34 (.tmp 4) (.tmp 14) rfl rfl x.cells rfl 34 _ (by rw [It.size]; exact infoIt) (by rw [It.size]; rfl) (It.one x) ?_))
  intro V R BV
  obtain ⟨ic, _, _⟩ := cells_of R
  have d0 := ic 0 (.int .i64 x.kind) rfl
  have HB : Hid _ := BV
  have H1 : Hid _ := H0.out.below BV
  have HRV : Hid _ := R
  clear ic R BV HR HFI
  go_wp2_with fail
  obtain ⟨v', w1, hrun, ho1, hg1, hv1⟩ := app_zeros (w := V.drew) (ty := 32) N (H1.out.below (Below.refl _ _).drew).words (by have := HKL.out; omega) (by have := HN.out; omega) (H1.out.below (Below.refl _ _).drew).bl
  have HG1 : Hid _ := hg1
  have M1 : Hid _ := (H1.out.below (Below.refl V.heap.size V).drew).more (new := List.replicate N 0) (by rw [List.length_replicate]; exact ho1) hg1 hv1
  have hwlt := H0.out.wl
  have hwb := H0.out.bl
  have hnw : ∀ q, q < B → wv.ownBlock ≠ some q := fun q hq e => by have := (owns_lt H1.out.words q e).1; omega
  have hnv : wv.ownBlock ≠ some w.heap.size := fun e => by have := (owns_lt H0.out.words _ e).2; omega
  have hbs : w.heap.size < V.heap.size := (Array.getElem?_eq_some_iff.1 HRV.out).1
  have p2 : w1.heap[wb]? = some (.cells #[.pointer (some ⟨pb, 0, none⟩), .slice (some ⟨gb, 0, none⟩) n n, wv, sv] 113) := by
    rw [hg1.block wb (by show wb < V.heap.size; omega) (fun e => hnw wb hwlt e.symm)]
    exact H1.out.blk
  have p8 : w1.heap[w.heap.size]? = some (.cells x.cells 34) := by
    rw [hg1.block w.heap.size hbs (fun e => hnv e.symm)]
    exact HRV.out
  have hHeld1 : w1.cell? ⟨wb, 2, none⟩ = some wv ∧ w1.cell? ⟨w.heap.size, 7, none⟩ = some (.int .u32 (N : Int)) := ⟨(cells_of p2).1 2 _ rfl, (by have := (cells_of p8).1 7 (.int .u32 x.n) rfl; rw [HKS.out] at this; exact this)⟩
  obtain ⟨_, ifr, _⟩ := cells_of p2
  have f2 := ifr 2
  have LW : Hid (Low wb w (w1.setCell ⟨wb, 2, none⟩ v')) := fun B0 w0 hB hb => by
    have r1 : Below B0 w0 V.drew := hb.trans ((HB.out.trans ((Below.refl _ _).drew)).mono (by omega))
    exact (below_grown (b := wv.ownBlock.getD B) r1 (by
      cases hov : wv.ownBlock with
      | none => exact ⟨hg1.os, hg1.tape, hg1.output, hg1.size, fun k hk _ => hg1.block k hk (by rw [hov]; simp)⟩
      | some k => rw [hov] at hg1; exact hg1) (by show _ ≤ V.heap.size; omega) (by
      cases hov : wv.ownBlock with
      | none => show B0 ≤ B; omega
      | some k => show B0 ≤ k; have := (owns_lt H1.out.words k hov).1; omega)).setCell hB _
  have hHeld0 : V.drew.cell? ⟨wb, 2, none⟩ = some wv ∧ V.drew.cell? ⟨w.heap.size, 7, none⟩ = some (.int .u32 (N : Int)) := ⟨(cells_of H1.out.blk).1 2 _ rfl, (by have := (cells_of HRV.out).1 7 (.int .u32 x.n) rfl; rw [HKS.out] at this; exact this)⟩
  have c2v := hHeld1.1
  have hvs : ∃ sa n' cp, v' = .slice sa n' cp := by
    obtain ⟨_, ⟨e, _⟩ | ⟨gg, cp, cur, e, _⟩⟩ := ho1
    · exact ⟨_, _, _, e⟩
    · exact ⟨_, _, _, e⟩
  obtain ⟨sa', n', cp', rfl⟩ := hvs
  clear hg1 ho1 hv1 p2 p8 hnw hnv ifr
  refine wp_region_phase 10 (fun q w' => q = false → w'.cell? ⟨wb, 2, none⟩ = some wv ∧ w'.cell? ⟨w.heap.size, 7, none⟩ = some (.int .u32 (N : Int))) hmo (fun _ => hHeld0) (fun hHeld => ?_)
  have hHeld := hHeld rfl
  refine ptake_read 0 (some 95) (v := ?_) rfl rfl (by kernel_rfl) (by kernel_rfl) (by kernel_rfl) rfl (by kernel_rfl) (fun _ _ _ h => h) (by kernel_rfl) (Or.inl ⟨by rfl, ?_⟩) (fun _ => hHeld) ?_
  rotate_left
  · intro w hSw
    clear hSw
    go_simp
    try with_reducible rfl
  simp only [Act.put, List.setIfInBounds_toArray, List.set_cons_zero, List.set_cons_succ]
  refine ptake_read 1 (some 96) (v := ?_) rfl rfl (by kernel_rfl) (by kernel_rfl) (by kernel_rfl) rfl (by kernel_rfl) (fun _ _ _ h => h) (by kernel_rfl) (Or.inl ⟨by rfl, ?_⟩) (fun _ => hHeld) ?_
  rotate_left
  · intro w hSw
    clear hSw
    go_simp
    try with_reducible rfl
  simp only [Act.put, List.setIfInBounds_toArray, List.set_cons_zero, List.set_cons_succ]
  refine ptake_read 2 (some 97) (v := ?_) rfl rfl (by kernel_rfl) (by kernel_rfl) (by kernel_rfl) rfl (by kernel_rfl) (fun _ _ _ h => h) (by kernel_rfl) (Or.inl ⟨by rfl, ?_⟩) (fun _ => hHeld) ?_
  rotate_left
  · intro w hSw
    clear hSw
    go_simp
    try with_reducible rfl
  simp only [Act.put, List.setIfInBounds_toArray, List.set_cons_zero, List.set_cons_succ]
  refine ptake_read 3 (some 98) (v := ?_) rfl rfl (by kernel_rfl) (by kernel_rfl) (by kernel_rfl) rfl (by kernel_rfl) (fun _ _ _ h => h) (by kernel_rfl) (Or.inl ⟨by rfl, ?_⟩) (fun _ => hHeld) ?_
  rotate_left
  · intro w hSw
    clear hSw
    go_simp
    try with_reducible rfl
  simp only [Act.put, List.setIfInBounds_toArray, List.set_cons_zero, List.set_cons_succ]
  refine ptake_read 4 (some 99) (v := ?_) rfl rfl (by kernel_rfl) (by kernel_rfl) (by kernel_rfl) rfl (by kernel_rfl) (fun _ _ _ h => h) (by kernel_rfl) (Or.inl ⟨by rfl, ?_⟩) (fun _ => hHeld) ?_
  rotate_left
  · intro w hSw
    have q4 := (hSw rfl).1
    clear hSw
    go_simp
    try with_reducible rfl
  simp only [Act.put, List.setIfInBounds_toArray, List.set_cons_zero, List.set_cons_succ]
  refine ptake_read 5 (some 100) (v := ?_) rfl rfl (by kernel_rfl) (by kernel_rfl) (by kernel_rfl) rfl (by kernel_rfl) (fun _ _ _ h => h) (by kernel_rfl) (Or.inl ⟨by rfl, ?_⟩) (fun _ => hHeld) ?_
  rotate_left
  · intro w hSw
    clear hSw
    go_simp
    try with_reducible rfl
  simp only [Act.put, List.setIfInBounds_toArray, List.set_cons_zero, List.set_cons_succ]
  refine ptake_read 6 (some 101) (v := ?_) rfl rfl (by kernel_rfl) (by kernel_rfl) (by kernel_rfl) rfl (by kernel_rfl) (fun _ _ _ h => h) (by kernel_rfl) (Or.inl ⟨by rfl, ?_⟩) (fun _ => hHeld) ?_
  rotate_left
  · intro w hSw
    have q6 := (hSw rfl).2
    clear hSw
    go_simp
    try with_reducible rfl
  simp only [Act.put, List.setIfInBounds_toArray, List.set_cons_zero, List.set_cons_succ]
  refine pturn 7 (some 102) (v := .slice sa' n' cp') (w' := w1) rfl rfl (by rfl) (by kernel_rfl) (run_app rfl rfl rfl hrun) (fun _ => hHeld1) ?_
  simp only [Act.put, List.setIfInBounds_toArray, List.set_cons_zero, List.set_cons_succ]
  refine ptake_pure 8 (some 103) (v := ?_) rfl rfl (by kernel_rfl) (by kernel_rfl) (by kernel_rfl) rfl (fun _ _ _ h => h) (Or.inl ⟨by rfl, ?_⟩) (fun _ => hHeld1) ?_
  rotate_left
  · intro w hSw
    clear hSw
    go_simp
    try with_reducible rfl
  simp only [Act.put, List.setIfInBounds_toArray, List.set_cons_zero, List.set_cons_succ]
  refine ptake_read 9 (some 104) (v := ?_) rfl rfl (by kernel_rfl) (by kernel_rfl) (by kernel_rfl) rfl (by kernel_rfl) (fun _ _ _ h => h) (by kernel_rfl) (Or.inl ⟨by rfl, ?_⟩) (fun _ => hHeld1) ?_
  rotate_left
  · intro w hSw
    clear hSw
    go_simp
    try with_reducible rfl
  simp only [Act.put, List.setIfInBounds_toArray, List.set_cons_zero, List.set_cons_succ]
  refine pskip 10 none rfl rfl (by rfl) (by kernel_rfl) (w' := w1.setCell ⟨wb, 2, none⟩ (.slice sa' n' cp')) (by simp [execOp, go_sem, c2v, f2, Result.andThen]) (fun h => (by cases h)) ?_
  refine pdone (by kernel_rfl) ?_ _
  refine NoPanic.normal ?_
  clear hHeld hHeld0 hHeld1 hrun c2v f2
  go_wp2
  go_end0
  exact ⟨rfl, ⟨_, M1.out⟩, LW.out⟩
end Go.Proofs.Ytpjnefnngmlpjaa
