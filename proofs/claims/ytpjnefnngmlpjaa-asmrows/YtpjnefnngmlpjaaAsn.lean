/-
  Package asm: item, of words.
-/
import Derived.Test.YtpjnefnngmlpjaaAsm
import Derived.Test.YtpjnefnngmlpjaaPhase
import Derived.Laws.AppendOwnNone
namespace Go.Proofs.Ytpjnefnngmlpjaa
open Go.RowKit

/-- A slice of words that came in. -/
def WordsAt (w : World) (wa : Option Addr) (wl wc : Nat) (ks : List Int) : Prop :=
  wl = ks.length ∧ ((wa = none ∧ wl = 0 ∧ wc = 0) ∨ ∃ a : Addr, wa = some a ∧ ∀ j u, (wrow ks)[j]? = some u → (a.add j).block < w.heap.size ∧ w.cell? (a.add j) = some u)
theorem WordsAt.below {w w' : World} {wa : Option Addr} {wl wc : Nat} {ks : List Int} (h : WordsAt w wa wl wc ks) (hb : Below w.heap.size w w') : WordsAt w' wa wl wc ks := by
  obtain ⟨h1, h2 | ⟨a, ea, h2⟩⟩ := h
  · exact ⟨h1, .inl h2⟩
  · refine ⟨h1, .inr ⟨a, ea, fun j u hj => ?_⟩⟩
    obtain ⟨h3, h4⟩ := h2 j u hj
    exact ⟨Nat.lt_of_lt_of_le h3 hb.size, by rw [hb.cell (p := a.add j) h3]; exact h4⟩
theorem run_app {P : Program} {o : Oper} {a : Act} {w w' : World} {s x : Operand} {t1 t2 : TypeId} {vs vx v' : Value} (ho : o.op = .call { callee := .builtin .append, args := #[s, x], argTypes := #[t1, t2] }) (hs : a.eval s = vs) (hx : a.eval x = vx) (hr : (Builtin.append_ #[t1, t2] o.type #[vs, vx]).run P w = .ok v' w') : (execOp a.eval o).run P w = .ok (.value v') w' := by
  unfold execOp
  simp only [ho, resolve, invoke, builtin, Sem.run_bind, Sem.run_pure, Result.andThen_ok, List.map_toArray, List.map_cons, List.map_nil, hs, hx, hr]
theorem app_words {w : World} {B : Nat} {ty : TypeId} {wv : Value} {ws ks : List Int} {wa : Option Addr} {wl wc : Nat} (ho : w.ownsRow B 22 1 wv ws.length (wrow ws)) (hk : WordsAt w wa wl wc ks) (hn : ws.length + ks.length ≤ 2000000000) (hB : B ≤ w.heap.size) :
    ∃ v' w1, (Builtin.append_ #[32, 32] ty #[wv, .slice wa wl wc]).run Try.prog w = .ok v' w1 ∧ w1.ownsRow B 22 1 v' (ws.length + ks.length) (wrow ws ++ wrow ks) ∧ w.grownBy w1 wv.ownBlock ∧ (v'.ownBlock = wv.ownBlock ∨ v'.ownBlock = some w.heap.size) := by
  obtain ⟨i0, hi0, hz0, hz1, hz2⟩ := info_parts infoU
  obtain ⟨h1, ⟨rfl, h3, rfl⟩ | ⟨a, rfl, h2⟩⟩ := hk
  · have hl : ks = [] := List.eq_nil_of_length_eq_zero (by omega)
    subst hl
    subst h3
    refine ⟨wv, w, run_append_owned_none (P := Try.prog) w B _ ty 22 i0 1 Try.underlying32 hi0 wv ws.length (wrow ws) ho, ?_, ⟨rfl, rfl, rfl, Nat.le_refl _, fun _ _ _ => rfl⟩, .inl rfl⟩
    show w.ownsRow B 22 1 wv ws.length (wrow ws ++ [])
    rw [List.append_nil]
    exact ho
  · subst h1
    obtain ⟨v', w1, e1, e2, e3, _, e5⟩ := run_append_own_at (P := Try.prog) w B 32 ty 22 i0 _ 1 4 Try.underlying32 hi0 hz0 hz1 hz2 rfl (by decide) wv ws.length (wrow ws) ho a ks.length wc (wrow ks) (by simp [wrow]) (fun j u hj => (h2 j u hj).2) (by intro u hu; simp only [wrow, List.mem_map] at hu; obtain ⟨y, _, rfl⟩ := hu; rfl) (by unfold maxLen; omega) (by omega) hB
    exact ⟨v', w1, e1, e2, e3, e5⟩
set_option maxRecDepth 100000 in
set_option maxHeartbeats 2000000 in
theorem aItemWords {w : World} {wb pb gb B n b off : Nat} {sa : Option Addr} {cap g gf : Nat} {base : Int} {xs : List It} {sf : Nat → Int} {wv sv : Value} {ws : List Int} {ss : List (ByteArray × Int)} (hp : ProgAt w pb b off sa cap g gf base xs) (hl : xs.length ≤ 1000000) (h : WrAt w wb pb gb B n sf wv sv ws ss) (hn : ws.length < 1000000000) (k : Nat) (x : It) (hx : xs[k]? = some x) (hk : x.kind = 7) (ks : List Int) (hks : WordsAt w x.wa x.wl x.wc ks) (hkl1 : ks.length ≤ 1000000000) :
    Calls Try.prog 55 #[.pointer (some ⟨wb, 0, none⟩), .int .i64 k] w fun e w' => e = .returned (.tuple #[]) ∧ ∃ wv', WrAt w' wb pb gb B n sf wv' sv (ws ++ ks) ss ∧ Low wb w w' := by
  have hkl : k < xs.length := (List.getElem?_eq_some_iff.1 hx).1
  have H0 : Hid _ := h
  have HN : Hid (ws.length < 1000000000) := hn
  have HKL : Hid (ks.length ≤ 1000000000) := hkl1
  have HKS : Hid _ := hks
  have hmo : Try.prog.follows .mixedOrders = true := by kernel_rfl
  have c1 := hp.slice
  have c2 : w.cell? ⟨wb, 0, none⟩ = some (.pointer (some ⟨pb, 0, none⟩)) := (cells_of h.blk).1 0 _ rfl
  obtain ⟨ea, hb⟩ := hp.its.at' (by omega)
  subst ea
  have HR : Hid _ := hp.its.row k x hx
  obtain ⟨fi, hfi⟩ := undIt
  have HFI : Hid _ := hfi
  have k0 : (0 : Int) ≤ (k : Int) := by omega
  have k1 : (k : Int) < (xs.length : Int) := by omega
  clear h hp hb hx hfi hn hks hkl1
  generalize xs.length = nx at *
  go_enter Try.func55, Try.ntmps55
  go_wp2_with (first | (refine wpList_mids (by rfl) 34 (.tmp 13) rfl b (off + k * 9) rfl x.cells _ HR.out HFI.out rfl (by rw [It.size]; exact infoIt) ?_) | (refine wpList_fill rfl 34 (.tmp 4) (.tmp 14) rfl rfl x.cells rfl 34 _ (by rw [It.size]; exact infoIt) (by rw [It.size]; rfl) (It.one x) ?_))
  intro V R BV
  obtain ⟨ic, _, _⟩ := cells_of R
  have d0 := ic 0 (.int .i64 x.kind) rfl
  have HB : Hid _ := BV
  have H1 : Hid _ := H0.out.below BV
  have HRV : Hid _ := R
  clear ic R BV HR HFI
  go_wp2_with fail
  obtain ⟨v', w1, hrun, ho1, hg1, hv1⟩ := app_words (w := V.drew) (ty := 32) (H1.out.below (Below.refl _ _).drew).words (WordsAt.below HKS.out (HB.out.trans ((Below.refl _ _).drew))) (by have := HN.out; have := HKL.out; omega) (H1.out.below (Below.refl _ _).drew).bl
  have HG1 : Hid _ := hg1
  have M1 : Hid _ := (H1.out.below (Below.refl V.heap.size V).drew).more ho1 hg1 hv1
  have hwlt := H0.out.wl
  have hwb := H0.out.bl
  have hnw : ∀ q, q < B → wv.ownBlock ≠ some q := fun q hq e => by have := (owns_lt H1.out.words q e).1; omega
  have hnv : wv.ownBlock ≠ some w.heap.size := fun e => by have := (owns_lt H0.out.words _ e).2; omega
  have hbs : w.heap.size < V.heap.size := (Array.getElem?_eq_some_iff.1 HRV.out).1
  have p2 : w1.heap[wb]? = some (.cells #[.pointer (some ⟨pb, 0, none⟩), .slice (some ⟨gb, 0, none⟩) n n, wv, sv] 113) := by
    rw [hg1.block wb (by show wb < V.heap.size; omega) (fun e => hnw wb hwlt e.symm)]
    exact H1.out.blk
  have p8 : w1.heap[w.heap.size]? = some (.cells x.cells 34) := by
    rw [hg1.block w.heap.size hbs (fun e => hnv e.symm)]
    exact HRV.out
  have hHeld1 : w1.cell? ⟨wb, 2, none⟩ = some wv ∧ w1.cell? ⟨w.heap.size, 8, none⟩ = some (.slice x.wa x.wl x.wc) := ⟨(cells_of p2).1 2 _ rfl, (cells_of p8).1 8 _ rfl⟩
  obtain ⟨_, ifr, _⟩ := cells_of p2
  have f2 := ifr 2
  have LW : Hid (Low wb w (w1.setCell ⟨wb, 2, none⟩ v')) := fun B0 w0 hB hb => by
    have r1 : Below B0 w0 V.drew := hb.trans ((HB.out.trans ((Below.refl _ _).drew)).mono (by omega))
    exact (below_grown (b := wv.ownBlock.getD B) r1 (by
      cases hov : wv.ownBlock with
      | none => exact ⟨hg1.os, hg1.tape, hg1.output, hg1.size, fun k hk _ => hg1.block k hk (by rw [hov]; simp)⟩
      | some k => rw [hov] at hg1; exact hg1) (by show _ ≤ V.heap.size; omega) (by
      cases hov : wv.ownBlock with
      | none => show B0 ≤ B; omega
      | some k => show B0 ≤ k; have := (owns_lt H1.out.words k hov).1; omega)).setCell hB _
  have hHeld0 : V.drew.cell? ⟨wb, 2, none⟩ = some wv ∧ V.drew.cell? ⟨w.heap.size, 8, none⟩ = some (.slice x.wa x.wl x.wc) := ⟨(cells_of H1.out.blk).1 2 _ rfl, (cells_of HRV.out).1 8 _ rfl⟩
  have c2v := hHeld1.1
  have hvs : ∃ sa n' cp, v' = .slice sa n' cp := by
    obtain ⟨_, ⟨e, _⟩ | ⟨gg, cp, cur, e, _⟩⟩ := ho1
    · exact ⟨_, _, _, e⟩
    · exact ⟨_, _, _, e⟩
  obtain ⟨sa', n', cp', rfl⟩ := hvs
  clear hg1 ho1 hv1 p2 p8 hnw hnv ifr
  refine wp_region_phase 10 (fun q w' => q = false → w'.cell? ⟨wb, 2, none⟩ = some wv ∧ w'.cell? ⟨w.heap.size, 8, none⟩ = some (.slice x.wa x.wl x.wc)) hmo (fun _ => hHeld0) (fun hHeld => ?_)
  have hHeld := hHeld rfl
  refine ptake_read 0 (some 83) (v := ?_) rfl rfl (by kernel_rfl) (by kernel_rfl) (by kernel_rfl) rfl (by kernel_rfl) (fun _ _ _ h => h) (by kernel_rfl) (Or.inl ⟨by rfl, ?_⟩) (fun _ => hHeld) ?_
  rotate_left
  · intro w hSw
    clear hSw
    go_simp
    try with_reducible rfl
  simp only [Act.put, List.setIfInBounds_toArray, List.set_cons_zero, List.set_cons_succ]
  refine ptake_read 1 (some 84) (v := ?_) rfl rfl (by kernel_rfl) (by kernel_rfl) (by kernel_rfl) rfl (by kernel_rfl) (fun _ _ _ h => h) (by kernel_rfl) (Or.inl ⟨by rfl, ?_⟩) (fun _ => hHeld) ?_
  rotate_left
  · intro w hSw
    clear hSw
    go_simp
    try with_reducible rfl
  simp only [Act.put, List.setIfInBounds_toArray, List.set_cons_zero, List.set_cons_succ]
  refine ptake_read 2 (some 85) (v := ?_) rfl rfl (by kernel_rfl) (by kernel_rfl) (by kernel_rfl) rfl (by kernel_rfl) (fun _ _ _ h => h) (by kernel_rfl) (Or.inl ⟨by rfl, ?_⟩) (fun _ => hHeld) ?_
  rotate_left
  · intro w hSw
    clear hSw
    go_simp
    try with_reducible rfl
  simp only [Act.put, List.setIfInBounds_toArray, List.set_cons_zero, List.set_cons_succ]
  refine ptake_read 3 (some 86) (v := ?_) rfl rfl (by kernel_rfl) (by kernel_rfl) (by kernel_rfl) rfl (by kernel_rfl) (fun _ _ _ h => h) (by kernel_rfl) (Or.inl ⟨by rfl, ?_⟩) (fun _ => hHeld) ?_
  rotate_left
  · intro w hSw
    clear hSw
    go_simp
    try with_reducible rfl
  simp only [Act.put, List.setIfInBounds_toArray, List.set_cons_zero, List.set_cons_succ]
  refine ptake_read 4 (some 87) (v := ?_) rfl rfl (by kernel_rfl) (by kernel_rfl) (by kernel_rfl) rfl (by kernel_rfl) (fun _ _ _ h => h) (by kernel_rfl) (Or.inl ⟨by rfl, ?_⟩) (fun _ => hHeld) ?_
  rotate_left
  · intro w hSw
    have q4 := (hSw rfl).1
    clear hSw
    go_simp
    try with_reducible rfl
  simp only [Act.put, List.setIfInBounds_toArray, List.set_cons_zero, List.set_cons_succ]
  refine ptake_read 5 (some 88) (v := ?_) rfl rfl (by kernel_rfl) (by kernel_rfl) (by kernel_rfl) rfl (by kernel_rfl) (fun _ _ _ h => h) (by kernel_rfl) (Or.inl ⟨by rfl, ?_⟩) (fun _ => hHeld) ?_
  rotate_left
  · intro w hSw
    clear hSw
    go_simp
    try with_reducible rfl
  simp only [Act.put, List.setIfInBounds_toArray, List.set_cons_zero, List.set_cons_succ]
  refine ptake_read 6 (some 89) (v := ?_) rfl rfl (by kernel_rfl) (by kernel_rfl) (by kernel_rfl) rfl (by kernel_rfl) (fun _ _ _ h => h) (by kernel_rfl) (Or.inl ⟨by rfl, ?_⟩) (fun _ => hHeld) ?_
  rotate_left
  · intro w hSw
    have q6 := (hSw rfl).2
    clear hSw
    go_simp
    try with_reducible rfl
  simp only [Act.put, List.setIfInBounds_toArray, List.set_cons_zero, List.set_cons_succ]
  refine pturn 7 (some 90) (v := .slice sa' n' cp') (w' := w1) rfl rfl (by rfl) (by kernel_rfl) (run_app rfl rfl rfl hrun) (fun _ => hHeld1) ?_
  simp only [Act.put, List.setIfInBounds_toArray, List.set_cons_zero, List.set_cons_succ]
  refine ptake_pure 8 (some 91) (v := ?_) rfl rfl (by kernel_rfl) (by kernel_rfl) (by kernel_rfl) rfl (fun _ _ _ h => h) (Or.inl ⟨by rfl, ?_⟩) (fun _ => hHeld1) ?_
  rotate_left
  · intro w hSw
    clear hSw
    go_simp
    try with_reducible rfl
  simp only [Act.put, List.setIfInBounds_toArray, List.set_cons_zero, List.set_cons_succ]
  refine ptake_read 9 (some 92) (v := ?_) rfl rfl (by kernel_rfl) (by kernel_rfl) (by kernel_rfl) rfl (by kernel_rfl) (fun _ _ _ h => h) (by kernel_rfl) (Or.inl ⟨by rfl, ?_⟩) (fun _ => hHeld1) ?_
  rotate_left
  · intro w hSw
    clear hSw
    go_simp
    try with_reducible rfl
  simp only [Act.put, List.setIfInBounds_toArray, List.set_cons_zero, List.set_cons_succ]
  refine pskip 10 none rfl rfl (by rfl) (by kernel_rfl) (w' := w1.setCell ⟨wb, 2, none⟩ (.slice sa' n' cp')) (by simp [execOp, go_sem, c2v, f2, Result.andThen]) (fun h => (by cases h)) ?_
  refine pdone (by kernel_rfl) ?_ _
  refine NoPanic.normal ?_
  clear hHeld hHeld0 hHeld1 hrun c2v f2
  go_wp2
  go_end0
  exact ⟨rfl, ⟨_, M1.out⟩, LW.out⟩
end Go.Proofs.Ytpjnefnngmlpjaa
