/-
  Package asm: item, of a label.
-/
import Derived.Test.YtpjnefnngmlpjaaAsn
namespace Go.Proofs.Ytpjnefnngmlpjaa
open Go.RowKit

theorem infoSy : (Try.prog.info? 59).map (fun i => (i.zero, i.size, i.bytes)) = some (some (.agg #[.string ⟨#[]⟩, .int .u32 0]), 2, 24) := by kernel_rfl
theorem srow_more (ss : List (ByteArray × Int)) (s : ByteArray × Int) : srow (ss ++ [s]) = srow ss ++ [.string s.1, .int .u32 s.2] := by
  induction ss with
  | nil => rfl
  | cons a l ih => simp [srow, ih]
theorem sym_at {w : World} {b : Nat} {s : ByteArray} {y : Int} (h : w.heap[b]? = some (.cells #[.string s, .int .u32 y] 59)) : ∀ j u, ([.string s, .int .u32 y] : List Value)[j]? = some u → w.cell? ((⟨b, 0, none⟩ : Addr).add j) = some u := by
  intro j u hj
  rcases j with _ | _ | j
  · cases hj
    exact (cells_of h).1 0 _ rfl
  · cases hj
    exact (cells_of h).1 1 _ rfl
  · cases hj
section
variable {w : World} {wb pb gb B n : Nat} {sf : Nat → Int} {wv sv : Value} {ws : List Int} {ss : List (ByteArray × Int)}
/-- A label has been put behind those that there were, and the writer knows. -/
theorem WrAt.moreS {w1 : World} {v' : Value} {s : ByteArray × Int} (h : WrAt w wb pb gb B n sf wv sv ws ss) (ho : w1.ownsRow B 59 2 v' (ss.length + 1) (srow ss ++ [.string s.1, .int .u32 s.2])) (hg : w.grownBy w1 sv.ownBlock) (hv : v'.ownBlock = sv.ownBlock ∨ v'.ownBlock = some w.heap.size) :
    WrAt (w1.setCell ⟨wb, 3, none⟩ v') wb pb gb B n sf wv v' ws (ss ++ [s]) := by
  have nw : ∀ k, k < B → sv.ownBlock ≠ some k := fun k hk e => by have := (owns_lt h.syms k e).1; omega
  have hwl := h.wl
  have hgl := h.gl
  have hbl := h.bl
  have b1 : w1.heap[wb]? = some (.cells #[.pointer (some ⟨pb, 0, none⟩), .slice (some ⟨gb, 0, none⟩) n n, wv, sv] 113) := by
    rw [hg.block wb (by omega) (fun e => nw wb hwl e.symm)]
    exact h.blk
  have g1 : w1.heap[gb]? = some (.cells (intsF n sf) 3) := by
    rw [hg.block gb (by omega) (fun e => nw gb hgl e.symm)]
    exact h.st
  have hne := h.ne
  refine ⟨heap_setCell_at v' b1, (Below.heap_setCell _ _ _ _ (show gb ≠ wb from hne.symm)).trans g1, owns_set (owns_grown h.words hg (fun k e1 e2 => h.apart k e2 e1)) hwl, ?_, fun k e1 e2 => ?_, hwl, hgl, ?_, hne⟩
  · rw [List.length_append, srow_more]
    exact owns_set ho hwl
  · rcases hv with e | e
    · exact h.apart k e1 (e.symm.trans e2)
    · rw [e] at e2
      cases e2
      have := (owns_lt h.words _ e1).2
      omega
  · show B ≤ (w1.setCell _ _).heap.size
    have : (w1.setCell ⟨wb, 3, none⟩ v').heap.size = w1.heap.size := by simp [World.setCell]
    have := hg.size
    omega
end
set_option maxRecDepth 100000 in
set_option maxHeartbeats 2000000 in
theorem aItemLabel {w : World} {wb pb gb B n b off : Nat} {sa : Option Addr} {cap g gf : Nat} {base : Int} {xs : List It} {wv sv : Value} {ws : List Int} {ss : List (ByteArray × Int)} (hp : ProgAt w pb b off sa cap g gf base xs) (hl : xs.length ≤ 1000000) (h : WrAt w wb pb gb B n (sumV xs) wv sv ws ss) (hn : ss.length < 1000000000) (k : Nat) (x : It) (hx : xs[k]? = some x) (hk : x.kind = 1) (hkn : k < n) (hnm : Nm x.name) (hlab : labF xs xs.length x.name = some (k : Int)) :
    Calls Try.prog 55 #[.pointer (some ⟨wb, 0, none⟩), .int .i64 k] w fun e w' => e = .returned (.tuple #[]) ∧ ∃ sv', WrAt w' wb pb gb B n (sumV xs) wv sv' ws (ss ++ [(x.name, addrV base (sumV xs k))]) ∧ Low wb w w' := by
  have hkl : k < xs.length := (List.getElem?_eq_some_iff.1 hx).1
  have H0 : Hid _ := h
  have HN : Hid (ss.length < 1000000000) := hn
  have HP : Hid _ := hp
  have CA : Hid (∀ V, Below w.heap.size w V → _) := fun V hV => aAddr (hp.below hV) (h.below hV) x.name hnm k hkn hlab
  have hmo : Try.prog.follows .mixedOrders = true := by kernel_rfl
  have c1 := hp.slice
  have c2 : w.cell? ⟨wb, 0, none⟩ = some (.pointer (some ⟨pb, 0, none⟩)) := (cells_of h.blk).1 0 _ rfl
  obtain ⟨ea, hb⟩ := hp.its.at' (by omega)
  subst ea
  have HR : Hid _ := hp.its.row k x hx
  obtain ⟨fi, hfi⟩ := undIt
  have HFI : Hid _ := hfi
  have k0 : (0 : Int) ≤ (k : Int) := by omega
  have k1 : (k : Int) < (xs.length : Int) := by omega
  obtain ⟨yv, hyv⟩ : ∃ yv, yv = addrV base (sumV xs k) := ⟨_, rfl⟩
  rw [← hyv] at CA
  rw [← hyv]
  generalize sumV xs = sf at *
  clear h hp HP hb hx hfi hn hnm hlab hyv
  generalize xs.length = nx at *
  go_enter Try.func55, Try.ntmps55
  go_wp2_with (first | (refine wpList_mids (by rfl) 34 (.tmp 13) rfl b (off + k * 9) rfl x.cells _ HR.out HFI.out rfl (by rw [It.size]; exact infoIt) ?_) | (refine wpList_fill rfl 34 (.tmp 4) (.tmp 14) rfl rfl x.cells rfl 34 _ (by rw [It.size]; exact infoIt) (by rw [It.size]; rfl) (It.one x) ?_))
  intro V R BV
  obtain ⟨ic, _, _⟩ := cells_of R
  have d0 := ic 0 (.int .i64 x.kind) rfl
  have HB : Hid _ := BV
  have H1 : Hid _ := H0.out.below BV
  have HRV : Hid _ := R
  clear ic R BV HR HFI
  go_wp2_with fail
  have hwlt := H0.out.wl
  have hwb := H0.out.bl
  have hbs : w.heap.size < V.heap.size := (Array.getElem?_eq_some_iff.1 HRV.out).1
  refine wp_region_phase 16 (fun q w' => q = false → w'.heap[wb]? = some (.cells #[.pointer (some ⟨pb, 0, none⟩), .slice (some ⟨gb, 0, none⟩) n n, wv, sv] 113) ∧ w'.heap[w.heap.size]? = some (.cells x.cells 34)) hmo (fun _ => ⟨H1.out.blk, HRV.out⟩) (fun hHeld => ?_)
  have hHeld := hHeld rfl
  refine ptake_read 0 (some 19) (v := ?_) rfl rfl (by kernel_rfl) (by kernel_rfl) (by kernel_rfl) rfl (by kernel_rfl) (fun _ _ _ h => h) (by kernel_rfl) (Or.inl ⟨by rfl, ?_⟩) (fun _ => hHeld) ?_
  rotate_left
  · intro w hSw
    clear hSw
    go_simp
    try with_reducible rfl
  simp only [Act.put, List.setIfInBounds_toArray, List.set_cons_zero, List.set_cons_succ]
  refine ptake_read 1 (some 20) (v := ?_) rfl rfl (by kernel_rfl) (by kernel_rfl) (by kernel_rfl) rfl (by kernel_rfl) (fun _ _ _ h => h) (by kernel_rfl) (Or.inl ⟨by rfl, ?_⟩) (fun _ => hHeld) ?_
  rotate_left
  · intro w hSw
    clear hSw
    go_simp
    try with_reducible rfl
  simp only [Act.put, List.setIfInBounds_toArray, List.set_cons_zero, List.set_cons_succ]
  refine ptake_read 2 (some 21) (v := ?_) rfl rfl (by kernel_rfl) (by kernel_rfl) (by kernel_rfl) rfl (by kernel_rfl) (fun _ _ _ h => h) (by kernel_rfl) (Or.inl ⟨by rfl, ?_⟩) (fun _ => hHeld) ?_
  rotate_left
  · intro w hSw
    clear hSw
    go_simp
    try with_reducible rfl
  simp only [Act.put, List.setIfInBounds_toArray, List.set_cons_zero, List.set_cons_succ]
  refine ptake_read 3 (some 22) (v := ?_) rfl rfl (by kernel_rfl) (by kernel_rfl) (by kernel_rfl) rfl (by kernel_rfl) (fun _ _ _ h => h) (by kernel_rfl) (Or.inl ⟨by rfl, ?_⟩) (fun _ => hHeld) ?_
  rotate_left
  · intro w hSw
    clear hSw
    go_simp
    try with_reducible rfl
  simp only [Act.put, List.setIfInBounds_toArray, List.set_cons_zero, List.set_cons_succ]
  refine ptake_read 4 (some 23) (v := ?_) rfl rfl (by kernel_rfl) (by kernel_rfl) (by kernel_rfl) rfl (by kernel_rfl) (fun _ _ _ h => h) (by kernel_rfl) (Or.inl ⟨by rfl, ?_⟩) (fun _ => hHeld) ?_
  rotate_left
  · intro w hSw
    have q4 := (cells_of (hSw rfl).1).1 3 sv rfl
    clear hSw
    go_simp
    try with_reducible rfl
  simp only [Act.put, List.setIfInBounds_toArray, List.set_cons_zero, List.set_cons_succ]
  refine ptake_read 5 (some 24) (v := ?_) rfl rfl (by kernel_rfl) (by kernel_rfl) (by kernel_rfl) rfl (by kernel_rfl) (fun _ _ _ h => h) (by kernel_rfl) (Or.inl ⟨by rfl, ?_⟩) (fun _ => hHeld) ?_
  rotate_left
  · intro w hSw
    clear hSw
    go_simp
    try with_reducible rfl
  simp only [Act.put, List.setIfInBounds_toArray, List.set_cons_zero, List.set_cons_succ]
  refine ptake_read 6 (some 25) (v := ?_) rfl rfl (by kernel_rfl) (by kernel_rfl) (by kernel_rfl) rfl (by kernel_rfl) (fun _ _ _ h => h) (by kernel_rfl) (Or.inl ⟨by rfl, ?_⟩) (fun _ => hHeld) ?_
  rotate_left
  · intro w hSw
    have q6 := (cells_of (hSw rfl).2).1 1 (.string x.name) rfl
    clear hSw
    go_simp
    try with_reducible rfl
  simp only [Act.put, List.setIfInBounds_toArray, List.set_cons_zero, List.set_cons_succ]
  refine ptake_read 7 (some 26) (v := ?_) rfl rfl (by kernel_rfl) (by kernel_rfl) (by kernel_rfl) rfl (by kernel_rfl) (fun _ _ _ h => h) (by kernel_rfl) (Or.inl ⟨by rfl, ?_⟩) (fun _ => hHeld) ?_
  rotate_left
  · intro w hSw
    clear hSw
    go_simp
    try with_reducible rfl
  simp only [Act.put, List.setIfInBounds_toArray, List.set_cons_zero, List.set_cons_succ]
  refine ptake_read 8 (some 27) (v := ?_) rfl rfl (by kernel_rfl) (by kernel_rfl) (by kernel_rfl) rfl (by kernel_rfl) (fun _ _ _ h => h) (by kernel_rfl) (Or.inl ⟨by rfl, ?_⟩) (fun _ => hHeld) ?_
  rotate_left
  · intro w hSw
    clear hSw
    go_simp
    try with_reducible rfl
  simp only [Act.put, List.setIfInBounds_toArray, List.set_cons_zero, List.set_cons_succ]
  refine ptake_read 9 (some 28) (v := ?_) rfl rfl (by kernel_rfl) (by kernel_rfl) (by kernel_rfl) rfl (by kernel_rfl) (fun _ _ _ h => h) (by kernel_rfl) (Or.inl ⟨by rfl, ?_⟩) (fun _ => hHeld) ?_
  rotate_left
  · intro w hSw
    have q6 := (cells_of (hSw rfl).2).1 1 (.string x.name) rfl
    clear hSw
    go_simp
    try with_reducible rfl
  simp only [Act.put, List.setIfInBounds_toArray, List.set_cons_zero, List.set_cons_succ]
  refine pcall 10 (some 29) 79 #[.pointer (some ⟨wb, 0, none⟩), .string x.name] rfl rfl (by rfl) (by kernel_rfl) (by kernel_rfl) (Calls.mono (CA.out V.drew (HB.out.trans (Below.refl _ _).drew)) ?_)
  rintro e w2 ⟨rfl, b2⟩
  have B2 : Hid (Below V.heap.size V w2) := (Below.refl V.heap.size V).drew.trans b2
  have hHeld := And.intro (kept_on hHeld.1 b2) (kept_on hHeld.2 b2)
  have H2 : Hid _ := H1.out.below B2.out
  clear b2
  refine ⟨_, rfl, fun _ => hHeld, ?_⟩
  simp only [Act.put, List.setIfInBounds_toArray, List.set_cons_zero, List.set_cons_succ]
  refine ptake_read 11 (some 30) (v := ?_) rfl rfl (by kernel_rfl) (by kernel_rfl) (by kernel_rfl) rfl (by kernel_rfl) (fun _ _ _ h => h) (by kernel_rfl) (Or.inl ⟨by rfl, ?_⟩) (fun _ => hHeld) ?_
  rotate_left
  · intro w hSw
    clear hSw
    go_simp
    try with_reducible rfl
  simp only [Act.put, List.setIfInBounds_toArray, List.set_cons_zero, List.set_cons_succ]
  have A3 : Below w2.heap.size w2 (w2.alloc (.cells #[.string x.name, .int .u32 yv] 59)) := (Below.refl _ _).alloc (Nat.le_refl _) _
  have B3 : Hid (Below V.heap.size V (w2.alloc (.cells #[.string x.name, .int .u32 yv] 59))) := below_step B2.out A3
  have H3 : Hid _ := H2.out.below A3
  have N3 : Hid ((w2.alloc (.cells #[.string x.name, .int .u32 yv] 59)).heap[w2.heap.size]? = some (.cells #[.string x.name, .int .u32 yv] 59)) := alloc_at w2 _
  have hHeld := And.intro (kept_on hHeld.1 A3) (kept_on hHeld.2 A3)
  refine pturn 12 (some 31) (v := .slice (some ⟨w2.heap.size, 0, none⟩) 1 1) (w' := w2.alloc (.cells #[.string x.name, .int .u32 yv] 59)) rfl rfl (by rfl) (by kernel_rfl) (by simp [execOp, go_sem, Result.andThen]) (fun _ => hHeld) ?_
  simp only [Act.put, List.setIfInBounds_toArray, List.set_cons_zero, List.set_cons_succ]
  obtain ⟨W3, hW3⟩ : ∃ W3, W3 = w2.alloc (.cells #[.string x.name, .int .u32 yv] 59) := ⟨_, rfl⟩
  rw [← hW3] at B3 H3 N3 hHeld
  rw [← hW3]
  clear hW3 A3
  obtain ⟨i0, hi0, hz0, hz1, hz2⟩ := info_parts infoSy
  obtain ⟨v', w1, hrun, ho1, hg1, _, hv1⟩ := run_append_own_at (P := Try.prog) W3 B 37 37 59 i0 _ 2 24 Try.underlying37 hi0 hz0 hz1 hz2 rfl (by decide) sv ss.length (srow ss) H3.out.syms ⟨w2.heap.size, 0, none⟩ 1 1 [.string x.name, .int .u32 yv] rfl (sym_at N3.out) (by intro u hu; simp only [List.mem_cons, List.not_mem_nil, or_false] at hu; rcases hu with rfl | rfl <;> rfl) (by have := HN.out; unfold maxLen; omega) (by have := HN.out; omega) H3.out.bl
  have M1 : Hid _ := H3.out.moreS (s := (x.name, yv)) ho1 hg1 hv1
  have hnw : ∀ q, q < B → sv.ownBlock ≠ some q := fun q hq e => by have := (owns_lt H3.out.syms q e).1; omega
  have hnv : sv.ownBlock ≠ some w.heap.size := fun e => by have := (owns_lt H0.out.syms _ e).2; omega
  have hb3 := B3.out.size
  have p2 : w1.heap[wb]? = some (.cells #[.pointer (some ⟨pb, 0, none⟩), .slice (some ⟨gb, 0, none⟩) n n, wv, sv] 113) := by
    rw [hg1.block wb (by omega) (fun e => hnw wb hwlt e.symm)]
    exact hHeld.1
  have p8 : w1.heap[w.heap.size]? = some (.cells x.cells 34) := by
    rw [hg1.block w.heap.size (by omega) (fun e => hnv e.symm)]
    exact hHeld.2
  obtain ⟨jc, ifr, _⟩ := cells_of p2
  have f3 := ifr 3
  have c3 := jc 3 sv rfl
  have LW : Hid (Low wb w (w1.setCell ⟨wb, 3, none⟩ v')) := fun B0 w0 hB hb => by
    have r1 : Below B0 w0 W3 := hb.trans ((HB.out.trans (B3.out.mono (by omega))).mono (by omega))
    exact (below_grown (b := sv.ownBlock.getD B) r1 (by
      cases hov : sv.ownBlock with
      | none => exact ⟨hg1.os, hg1.tape, hg1.output, hg1.size, fun k hk _ => hg1.block k hk (by rw [hov]; simp)⟩
      | some k => rw [hov] at hg1; exact hg1) (by omega) (by
      cases hov : sv.ownBlock with
      | none => show B0 ≤ B; omega
      | some k => show B0 ≤ k; have := (owns_lt H3.out.syms k hov).1; omega)).setCell hB _
  have hvs : ∃ sa n' cp, v' = .slice sa n' cp := by
    obtain ⟨_, ⟨e, _⟩ | ⟨gg, cp, cur, e, _⟩⟩ := ho1
    · exact ⟨_, _, _, e⟩
    · exact ⟨_, _, _, e⟩
  obtain ⟨sa', n', cp', rfl⟩ := hvs
  have hHeld1 := And.intro p2 p8
  clear hg1 ho1 hv1 p2 p8 hnw hnv ifr jc hHeld
  refine pturn 13 (some 32) (v := .slice sa' n' cp') (w' := w1) rfl rfl (by rfl) (by kernel_rfl) (run_app rfl rfl rfl hrun) (fun _ => hHeld1) ?_
  simp only [Act.put, List.setIfInBounds_toArray, List.set_cons_zero, List.set_cons_succ]
  refine ptake_pure 14 (some 33) (v := ?_) rfl rfl (by kernel_rfl) (by kernel_rfl) (by kernel_rfl) rfl (fun _ _ _ h => h) (Or.inl ⟨by rfl, ?_⟩) (fun _ => hHeld1) ?_
  rotate_left
  · intro w hSw
    clear hSw
    go_simp
    try with_reducible rfl
  simp only [Act.put, List.setIfInBounds_toArray, List.set_cons_zero, List.set_cons_succ]
  refine ptake_read 15 (some 34) (v := ?_) rfl rfl (by kernel_rfl) (by kernel_rfl) (by kernel_rfl) rfl (by kernel_rfl) (fun _ _ _ h => h) (by kernel_rfl) (Or.inl ⟨by rfl, ?_⟩) (fun _ => hHeld1) ?_
  rotate_left
  · intro w hSw
    clear hSw
    go_simp
    try with_reducible rfl
  simp only [Act.put, List.setIfInBounds_toArray, List.set_cons_zero, List.set_cons_succ]
  refine pskip 16 none rfl rfl (by rfl) (by kernel_rfl) (w' := w1.setCell ⟨wb, 3, none⟩ (.slice sa' n' cp')) (by simp [execOp, go_sem, c3, f3, Result.andThen]) (fun h => (by cases h)) ?_
  refine pdone (by kernel_rfl) ?_ _
  refine NoPanic.normal ?_
  clear hHeld1 hrun c3 f3
  go_wp2
  go_end0
  exact ⟨rfl, ⟨_, M1.out⟩, LW.out⟩
end Go.Proofs.Ytpjnefnngmlpjaa
