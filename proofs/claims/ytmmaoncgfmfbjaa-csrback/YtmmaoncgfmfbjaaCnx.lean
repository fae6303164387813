/-
  Package csr: what is written: the contract.
-/
import Derived.Test.YtmmaoncgfmfbjaaCnw
namespace Go.Proofs.Ytmmaoncgfmfbjaa
open Go.RowKit

theorem results_row_tmp {P : Program} {fn : Func} {p q : Tmp} {ty : TypeId} (h : fn.results = #[.cell p ty, .tmp q]) (tmps : Array Value) (w : World) (g : Nat) (t : TypeId) (cs : Array Value) (fr : Nat × Nat) (d : TypeDesc) (e : Value)
    (hp : tmps.getD p undef = .pointer (some ⟨g, 0, none⟩)) (hq : tmps.getD q undef = e) (hg : w.heap[g]? = some (.cells cs t fr))
    (hu : P.underlying ty = some d) (hd : (match d with | .struct _ | .array _ _ => true | _ => false) = true) (hi : (P.info? ty).map (·.size) = some cs.size) :
    (results fn tmps).run P w = .ok (.tuple #[.agg cs, e]) w := by
  have hp' : tmps[p]?.getD undef = .pointer (some ⟨g, 0, none⟩) := by simpa using hp
  have hq' : tmps[q]?.getD undef = e := by simpa using hq
  simp [results, h, hp', hq', asAddr, run_loadVar_row w g t ty cs fr d hg hu hd hi, Result.andThen]

set_option maxRecDepth 100000 in
set_option maxHeartbeats 4000000 in
theorem nWrite_none (f : Nat → Int) (u : Bool) (hu : ∀ i, U32 (f i)) (n x : Int) (h : readE n = 2) (w : World) : Calls Try.prog 10 #[.agg (regs57 f u), .int .i64 n, .int .u32 x] w fun e w' => e = .returned (.tuple #[.agg (regs57 f u), .int .i64 2]) ∧ Below w.heap.size w w' := by
  have HU : Hid _ := hu
  have HM : Hid (regM f 0 false n = none) := by show _ = _; unfold regM; rw [if_neg (by omega)]
  clear hu h
  have C : Hid _ := nregisters f u HU.out 0 false
  have hbox := box57 f u
  obtain ⟨fs, hfs⟩ := und57
  have HS : Hid _ := hfs
  clear hfs
  have HB0 : ((w.alloc (.cells (regs57 f u) 27)).alloc (.cells (regs57 (fun _ => 0) false) 27)).heap[w.heap.size]? = some (.cells (regs57 f u) 27) := kept_block ((Below.refl _ _).alloc (Nat.le_refl _) _)
  have HZ0 : ((w.alloc (.cells (regs57 f u) 27)).alloc (.cells (regs57 (fun _ => 0) false) 27)).heap[w.heap.size + 1]? = some (.cells (regs57 (fun _ => 0) false) 27) := by have := alloc_at (w.alloc (.cells (regs57 f u) 27)) (.cells (regs57 (fun _ => 0) false) 27); rwa [World.size_alloc] at this
  have HL0 : Below w.heap.size w ((w.alloc (.cells (regs57 f u) 27)).alloc (.cells (regs57 (fun _ => 0) false) 27)) := box2
  have z57 := zero57
  go_enter Try.func10, Try.ntmps10
  go_wp2_with (first | (refine wpList_load_row rfl 27 (.tmp 3) rfl _ rfl _ _ _ _ (by assumption) HS.out rfl (by rw [regs57_size]; exact info57) ?_))
  refine (C.out _).mono ?_
  rintro e w1 ⟨rfl, b1, m1⟩
  rw [World.size_alloc, World.size_alloc] at m1 ⊢
  have HB1 := kept_on HB0 b1
  have HZ1 := kept_on HZ0 b1
  have HL1 := below_step HL0 b1
  clear HB0 HZ0 HL0 b1 C
  go_wp2_with (first | (refine wpList_mget_none rfl rfl rfl rfl m1 HM.out ?_) | (refine wpList_load_row rfl 27 (.tmp 3) rfl _ rfl _ _ _ _ (by assumption) HS.out rfl (by rw [regs57_size]; exact info57) ?_) | (refine wpList_store_row rfl 27 (.tmp 6) (.tmp 21) rfl _ (regs57 _ _) rfl rfl _ _ (by assumption) (by rw [regs57_size]; exact info57) (by rw [regs57_size]; rfl) (regs57_one _ _) ?_))
  exact bodyPost_ret (results_row_tmp rfl _ _ _ _ _ _ _ _ rfl rfl (setRow_heap _ _ _ _ _ _ (by assumption)) HS.out rfl (by rw [regs57_size]; exact info57)) rfl ⟨rfl, below_setRow HL1 (Nat.le_succ _) _⟩

set_option maxRecDepth 100000 in
set_option maxHeartbeats 4000000 in
theorem nWrite_836 (f : Nat → Int) (u : Bool) (hu : ∀ i, U32 (f i)) (x : Int) (w : World) : Calls Try.prog 10 #[.agg (regs57 f u), .int .i64 836, .int .u32 x] w fun e w' => e = .returned (.tuple #[.agg (regs57 f u), .int .i64 7]) ∧ Below w.heap.size w w' := by
  have HU : Hid _ := hu
  have HM : Hid (regM f 0 false 836 = some 0) := by show _ = _; rfl
  clear hu
  have C : Hid _ := nregisters f u HU.out 0 false
  have hbox := box57 f u
  obtain ⟨fs, hfs⟩ := und57
  have HS : Hid _ := hfs
  clear hfs
  have HB0 : ((w.alloc (.cells (regs57 f u) 27)).alloc (.cells (regs57 (fun _ => 0) false) 27)).heap[w.heap.size]? = some (.cells (regs57 f u) 27) := kept_block ((Below.refl _ _).alloc (Nat.le_refl _) _)
  have HZ0 : ((w.alloc (.cells (regs57 f u) 27)).alloc (.cells (regs57 (fun _ => 0) false) 27)).heap[w.heap.size + 1]? = some (.cells (regs57 (fun _ => 0) false) 27) := by have := alloc_at (w.alloc (.cells (regs57 f u) 27)) (.cells (regs57 (fun _ => 0) false) 27); rwa [World.size_alloc] at this
  have HL0 : Below w.heap.size w ((w.alloc (.cells (regs57 f u) 27)).alloc (.cells (regs57 (fun _ => 0) false) 27)) := box2
  have z57 := zero57
  go_enter Try.func10, Try.ntmps10
  go_wp2_with (first | (refine wpList_load_row rfl 27 (.tmp 3) rfl _ rfl _ _ _ _ (by assumption) HS.out rfl (by rw [regs57_size]; exact info57) ?_))
  refine (C.out _).mono ?_
  rintro e w1 ⟨rfl, b1, m1⟩
  rw [World.size_alloc, World.size_alloc] at m1 ⊢
  have HB1 := kept_on HB0 b1
  have HZ1 := kept_on HZ0 b1
  have HL1 := below_step HL0 b1
  clear HB0 HZ0 HL0 b1 C
  go_wp2_with (first | (refine wpList_mget_some rfl rfl rfl rfl m1 HM.out ?_) | (refine wpList_load_row rfl 27 (.tmp 3) rfl _ rfl _ _ _ _ (by assumption) HS.out rfl (by rw [regs57_size]; exact info57) ?_) | (refine wpList_store_row rfl 27 (.tmp 6) (.tmp 28) rfl _ (regs57 _ _) rfl rfl _ _ (by assumption) (by rw [regs57_size]; exact info57) (by rw [regs57_size]; rfl) (regs57_one _ _) ?_))
  exact bodyPost_ret (results_row_tmp rfl _ _ _ _ _ _ _ _ rfl rfl (setRow_heap _ _ _ _ _ _ (by assumption)) HS.out rfl (by rw [regs57_size]; exact info57)) rfl ⟨rfl, below_setRow HL1 (Nat.le_succ _) _⟩

set_option maxRecDepth 100000 in
set_option maxHeartbeats 4000000 in
theorem nWrite_3072 (f : Nat → Int) (u : Bool) (hu : ∀ i, U32 (f i)) (x : Int) (w : World) : Calls Try.prog 10 #[.agg (regs57 f u), .int .i64 3072, .int .u32 x] w fun e w' => e = .returned (.tuple #[.agg (regs57 f u), .int .i64 7]) ∧ Below w.heap.size w w' := by
  have HU : Hid _ := hu
  have HM : Hid (regM f 0 false 3072 = some 0) := by show _ = _; rfl
  clear hu
  have C : Hid _ := nregisters f u HU.out 0 false
  have hbox := box57 f u
  obtain ⟨fs, hfs⟩ := und57
  have HS : Hid _ := hfs
  clear hfs
  have HB0 : ((w.alloc (.cells (regs57 f u) 27)).alloc (.cells (regs57 (fun _ => 0) false) 27)).heap[w.heap.size]? = some (.cells (regs57 f u) 27) := kept_block ((Below.refl _ _).alloc (Nat.le_refl _) _)
  have HZ0 : ((w.alloc (.cells (regs57 f u) 27)).alloc (.cells (regs57 (fun _ => 0) false) 27)).heap[w.heap.size + 1]? = some (.cells (regs57 (fun _ => 0) false) 27) := by have := alloc_at (w.alloc (.cells (regs57 f u) 27)) (.cells (regs57 (fun _ => 0) false) 27); rwa [World.size_alloc] at this
  have HL0 : Below w.heap.size w ((w.alloc (.cells (regs57 f u) 27)).alloc (.cells (regs57 (fun _ => 0) false) 27)) := box2
  have z57 := zero57
  go_enter Try.func10, Try.ntmps10
  go_wp2_with (first | (refine wpList_load_row rfl 27 (.tmp 3) rfl _ rfl _ _ _ _ (by assumption) HS.out rfl (by rw [regs57_size]; exact info57) ?_))
  refine (C.out _).mono ?_
  rintro e w1 ⟨rfl, b1, m1⟩
  rw [World.size_alloc, World.size_alloc] at m1 ⊢
  have HB1 := kept_on HB0 b1
  have HZ1 := kept_on HZ0 b1
  have HL1 := below_step HL0 b1
  clear HB0 HZ0 HL0 b1 C
  go_wp2_with (first | (refine wpList_mget_some rfl rfl rfl rfl m1 HM.out ?_) | (refine wpList_load_row rfl 27 (.tmp 3) rfl _ rfl _ _ _ _ (by assumption) HS.out rfl (by rw [regs57_size]; exact info57) ?_) | (refine wpList_store_row rfl 27 (.tmp 6) (.tmp 28) rfl _ (regs57 _ _) rfl rfl _ _ (by assumption) (by rw [regs57_size]; exact info57) (by rw [regs57_size]; rfl) (regs57_one _ _) ?_))
  exact bodyPost_ret (results_row_tmp rfl _ _ _ _ _ _ _ _ rfl rfl (setRow_heap _ _ _ _ _ _ (by assumption)) HS.out rfl (by rw [regs57_size]; exact info57)) rfl ⟨rfl, below_setRow HL1 (Nat.le_succ _) _⟩

set_option maxRecDepth 100000 in
set_option maxHeartbeats 4000000 in
theorem nWrite_cell (f : Nat → Int) (u : Bool) (hu : ∀ i, U32 (f i)) (n x : Int) (hx : U32 x) (c : Nat) (hc : cellOf n = some c) (w : World) : Calls Try.prog 10 #[.agg (regs57 f u), .int .i64 n, .int .u32 x] w fun e w' => e = .returned (.tuple #[.agg (regs57 (set1 f c (keepV n x)) u), .int .i64 0]) ∧ Below w.heap.size w w' := by
  have HU : Hid _ := hu
  have HM : Hid (regM f 0 false n = some (f c)) := regM_cell f 0 false hc
  have HT : Hid _ := fun i => take_write f n (keepV n x) c hc i
  have CH : Hid _ := nheld n x hx
  have HV : Hid (U32 (keepV n x)) := keepV_u hx
  have HN : Hid (N64 n) := by
    have hn := (cellOf_inv hc).1
    have hb := (cellOf_inv hc).2
    unfold numOf at hn
    refine ⟨?_, ?_⟩ <;> (repeat' split at hn) <;> omega
  obtain ⟨h1, h2⟩ := cell_ne hc
  have q1 : (n == 836) = false := by simpa using h1
  have q2 : (n == 3072) = false := by simpa using h2
  clear hu hx hc h1 h2
  generalize keepV n x = kv at *
  have C : Hid _ := nregisters f u HU.out 0 false
  have hbox := box57 f u
  obtain ⟨fs, hfs⟩ := und57
  have HS : Hid _ := hfs
  clear hfs
  have HB0 : ((w.alloc (.cells (regs57 f u) 27)).alloc (.cells (regs57 (fun _ => 0) false) 27)).heap[w.heap.size]? = some (.cells (regs57 f u) 27) := kept_block ((Below.refl _ _).alloc (Nat.le_refl _) _)
  have HZ0 : ((w.alloc (.cells (regs57 f u) 27)).alloc (.cells (regs57 (fun _ => 0) false) 27)).heap[w.heap.size + 1]? = some (.cells (regs57 (fun _ => 0) false) 27) := by have := alloc_at (w.alloc (.cells (regs57 f u) 27)) (.cells (regs57 (fun _ => 0) false) 27); rwa [World.size_alloc] at this
  have HL0 : Below w.heap.size w ((w.alloc (.cells (regs57 f u) 27)).alloc (.cells (regs57 (fun _ => 0) false) 27)) := box2
  have z57 := zero57
  go_enter Try.func10, Try.ntmps10
  go_wp2_with (first | (refine wpList_load_row rfl 27 (.tmp 3) rfl _ rfl _ _ _ _ (by assumption) HS.out rfl (by rw [regs57_size]; exact info57) ?_))
  refine (C.out _).mono ?_
  rintro e w1 ⟨rfl, b1, m1⟩
  rw [World.size_alloc, World.size_alloc] at m1 ⊢
  have HB1 := kept_on HB0 b1
  have HZ1 := kept_on HZ0 b1
  have HL1 := below_step HL0 b1
  clear HB0 HZ0 HL0 b1 C
  go_wp2_with (first | (refine wpList_mget_some rfl rfl rfl rfl m1 HM.out ?_))
  refine (CH.out _).mono ?_
  rintro e w2 ⟨rfl, b2⟩
  have HB2 := kept_on HB1 b2
  have HZ2 := kept_on HZ1 b2
  have HL2 := below_step HL1 b2
  have m2 := mapIs_kept m1 b2
  clear HB1 HZ1 HL1 b2 m1 CH
  go_wp2_with (first | (refine wpList_mput rfl (Or.inl rfl) rfl rfl rfl m2 HN.out HV.out (by decide) ?_; intro w3 m3 HO HL; have HB3 := HO w.heap.size _ (by omega) HB2; have HZ3 := HO (w.heap.size + 1) _ (by omega) HZ2; have HL3 := HL w.heap.size w (by omega) HL2; clear HO HL HB2 HZ2 HL2 m2) | (refine wpList_load_row rfl 27 (.tmp 3) rfl _ rfl _ _ _ _ (by assumption) HS.out rfl (by rw [regs57_size]; exact info57) ?_))
  refine (nkeep f u _ _ _ _ m3).mono ?_
  rintro e w4 ⟨rfl, b4⟩
  have HB4 := kept_on HB3 b4
  have HZ4 := kept_on HZ3 b4
  have HL4 := below_step HL3 b4
  clear HB3 HZ3 HL3 b4 m3
  rw [regs57_ext (fun i _ _ => HT.out i)]
  go_wp2_with (first | (refine wpList_store_row rfl 27 (.tmp 6) (.tmp 36) rfl _ (regs57 _ _) rfl rfl _ _ (by assumption) (by rw [regs57_size]; exact info57) (by rw [regs57_size]; rfl) (regs57_one _ _) ?_))
  exact bodyPost_ret (results_row_tmp rfl _ _ _ _ _ _ _ _ rfl rfl (setRow_heap _ _ _ _ _ _ (by assumption)) HS.out rfl (by rw [regs57_size]; exact info57)) rfl ⟨rfl, below_setRow HL4 (Nat.le_succ _) _⟩

theorem nWrite (f : Nat → Int) (u : Bool) (hu : ∀ i, U32 (f i)) (n x : Int) (hx : U32 x) (w : World) : Calls Try.prog 10 #[.agg (regs57 f u), .int .i64 n, .int .u32 x] w fun e w' => e = .returned (.tuple #[.agg (regs57 (writeF f n x) u), .int .i64 (writeE n)]) ∧ Below w.heap.size w w' := by
  by_cases h1 : n = 836
  · subst h1; exact nWrite_836 f u hu x w
  by_cases h2 : n = 3072
  · subst h2; exact nWrite_3072 f u hu x w
  cases hc : cellOf n with
  | some c =>
    have e1 : writeF f n x = set1 f c (keepV n x) := by unfold writeF; rw [hc]
    have e2 : writeE n = 0 := by unfold writeE; rw [if_neg (by omega), hc]; rfl
    rw [e1, e2]
    exact nWrite_cell f u hu n x hx c hc w
  | none =>
    have e1 : writeF f n x = f := by unfold writeF; rw [hc]
    have e2 : writeE n = 2 := by unfold writeE; rw [if_neg (by omega), hc]; rfl
    rw [e1, e2]
    exact nWrite_none f u hu n x (by unfold readE; rw [hc, if_neg (by simp [h1, h2])]) w
end Go.Proofs.Ytmmaoncgfmfbjaa
