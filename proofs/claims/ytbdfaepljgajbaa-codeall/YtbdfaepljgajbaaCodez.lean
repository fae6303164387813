/-
  The form of a word, as the code finds it: the contract of the function that does it.
-/
import Derived.Test.YtbdfaepljgajbaaCodei
import Derived.Test.YtbdfaepljgajbaaCodel
import Derived.Test.YtbdfaepljgajbaaMixh
import Derived.Test.YtbdfaepljgajbaaCodee
namespace Go.Proofs.Ytbdfaepljgajbaa
open Go.RowKit Go.Maps

theorem zeroForm (w : World) : (zeroValue 51).run Try.prog w = .ok (.agg #[.string ByteArray.empty, .int .i64 0, .int .u32 0, .int .u32 0, .int .u32 0]) w := by kernel_rfl

/-- What is found at a key among an opcode's forms. -/
def foundK (opc a b c : Int) (v : Value) (ok : Bool) : Prop :=
  (∃ j, j < 53 ∧ fo j = opc ∧ fo j = a ∧ fg j = b ∧ ff j = c ∧ ok = true ∧ v = .agg #[.string (opAt j), .int .i64 (lay9 (formAt j).2.k), .int .u32 (fo j), .int .u32 (ff j), .int .u32 (fg j)]) ∨
  ((∀ j, j < 53 → fo j = opc → ¬ (fo j = a ∧ fg j = b ∧ ff j = c)) ∧ ok = false ∧ v = .agg #[.string ByteArray.empty, .int .i64 0, .int .u32 0, .int .u32 0, .int .u32 0])

theorem keys_all : ((List.range 53).all fun i => (List.range 53).all fun j => i == j || !(fo i == fo j && fg i == fg j && ff i == ff j)) = true := by decide +kernel
theorem keys_one {i j : Nat} (hi : i < 53) (hj : j < 53) (h1 : fo i = fo j) (h2 : fg i = fg j) (h3 : ff i = ff j) : i = j := by
  have := List.all_eq_true.1 (List.all_eq_true.1 keys_all i (List.mem_range.2 hi)) j (List.mem_range.2 hj)
  simp [h1, h2, h3] at this
  exact this
theorem foundK_one {opc a b c : Int} {v v' : Value} {ok ok' : Bool} (h : foundK opc a b c v ok) (h' : foundK opc a b c v' ok') : v = v' ∧ ok = ok' := by
  rcases h with ⟨j, hj, h1, h2, h3, h4, h5, h6⟩ | ⟨h1, h2, h3⟩
  · rcases h' with ⟨i, hi, g1, g2, g3, g4, g5, g6⟩ | ⟨g1, g2, g3⟩
    · have := keys_one hi hj (by rw [g2, h2]) (by rw [g3, h3]) (by rw [g4, h4])
      subst this
      exact ⟨h6.trans g6.symm, h5.trans g5.symm⟩
    · exact absurd ⟨h2, h3, h4⟩ (g1 j hj h1)
  · rcases h' with ⟨i, hi, g1, g2, g3, g4, g5, g6⟩ | ⟨g1, g2, g3⟩
    · exact absurd ⟨g2, g3, g4⟩ (h1 i hi g1)
    · exact ⟨h3.trans g3.symm, h2.trans g2.symm⟩
theorem foundK_some (opc a b c : Int) : ∃ s la o f g ok, foundK opc a b c (.agg #[.string s, .int .i64 la, .int .u32 o, .int .u32 f, .int .u32 g]) ok := by
  by_cases h : ∃ j, j < 53 ∧ fo j = opc ∧ fo j = a ∧ fg j = b ∧ ff j = c
  · obtain ⟨j, hj, h1, h2, h3, h4⟩ := h
    exact ⟨_, _, _, _, _, _, Or.inl ⟨j, hj, h1, h2, h3, h4, rfl, rfl⟩⟩
  · exact ⟨_, _, _, _, _, _, Or.inr ⟨fun j hj h1 h2 => h ⟨j, hj, h1, h2⟩, rfl, rfl⟩⟩

/-- The block is a map of that opcode's forms. -/
def isMapOf (opc : Int) (g : Nat) (w : World) : Prop := ∃ n D, w.ownsMap Try.prog 77 readF g n D ∧ MapOf opc 53 D
theorem isMapOf_kept (opc : Int) (g : Nat) (w w' : World) (h : w'.heap[g]? = w.heap[g]?) (hm : isMapOf opc g w) : isMapOf opc g w' := by
  obtain ⟨n, D, ⟨es, clock, h1, h2⟩, h3⟩ := hm
  exact ⟨n, D, ⟨es, clock, h.trans h1, h2⟩, h3⟩
theorem look_at {opc a b c : Int} (ha : U32 a) (hb : U32 b) (hc : U32 c) {v : Value} {ok : Bool} (hf : foundK opc a b c v ok) {g : Nat} {w : World} (hm : isMapOf opc g w) :
    (Instr.lookup 79 (.map (some g)) (.agg #[.int .u32 a, .int .u32 b, .int .u32 c]) true).run Try.prog w = .ok (.tuple #[v, .bool ok]) w := by
  obtain ⟨n, D, hown, hmap⟩ := hm
  obtain ⟨v', ps, hrun, hv⟩ := hown.look_ok keyed undM (zeroForm w) (readF_mk _ _ _ _ _) (key_of ha hb hc)
  rcases hmap a b c ha hb hc with ⟨j, hj, h1, h2, h3, h4, h5, h6⟩ | ⟨h1, h2⟩
  · rw [h6] at hv
    obtain ⟨e1, e2⟩ := foundK_one hf (Or.inl ⟨j, hj, h1, h2, h3, h4, rfl, rfl⟩)
    rw [hrun, readF_inv hv, h5, e1, e2]
  · rw [atKey_of_not_has h2] at hv
    obtain ⟨e1, e2⟩ := foundK_one hf (Or.inr ⟨h1, rfl, rfl⟩)
    rw [hrun, readF_inv hv, h2, e1, e2]

theorem allocF (w : World) : (Instr.alloc 51 true (.tuple #[])).run Try.prog w = .ok (.pointer (some ⟨w.heap.size, 0, none⟩)) (w.alloc (.cells #[.string ⟨#[]⟩, .int .i64 0, .int .u32 0, .int .u32 0, .int .u32 0] 51)) := by kernel_rfl
set_option maxHeartbeats 2000000 in
theorem storeF (s : ByteArray) (la o f g : Int) (w : World) (b : Nat) (h : w.heap[b]? = some (.cells #[.string ⟨#[]⟩, .int .i64 0, .int .u32 0, .int .u32 0, .int .u32 0] 51)) :
    ∃ w', (Instr.storeAt 51 (.pointer (some ⟨b, 0, none⟩)) (.agg #[.string s, .int .i64 la, .int .u32 o, .int .u32 f, .int .u32 g])).run Try.prog w = .ok () w' ∧ Turned b (.cells #[.string s, .int .i64 la, .int .u32 o, .int .u32 f, .int .u32 g] 51) w w' := by
  obtain ⟨cc, cf, cs⟩ := cells_of h
  have c0 := cc 0 (.string ⟨#[]⟩) rfl
  have c1 := cc 1 (.int .i64 0) rfl
  have c2 := cc 2 (.int .u32 0) rfl
  have c3 := cc 3 (.int .u32 0) rfl
  have c4 := cc 4 (.int .u32 0) rfl
  have f0 := cf 0
  have f1 := cf 1
  have f2 := cf 2
  have f3 := cf 3
  have f4 := cf 4
  refine ⟨((((w.setCell ⟨b, 0, none⟩ (.string s)).setCell ⟨b, 1, none⟩ (.int .i64 la)).setCell ⟨b, 2, none⟩ (.int .u32 o)).setCell ⟨b, 3, none⟩ (.int .u32 f)).setCell ⟨b, 4, none⟩ (.int .u32 g), by simp [go_sem, c0, c1, c2, c3, c4, f0, f1, f2, f3, f4], ⟨rfl, rfl, rfl, by simp [World.setCell], ?_, fun k hk => ?_⟩⟩
  · rw [heap_setCell_at _ (heap_setCell_at _ (heap_setCell_at _ (heap_setCell_at _ (heap_setCell_at _ h))))]; rfl
  · rw [Below.heap_setCell _ _ _ _ hk, Below.heap_setCell _ _ _ _ hk, Below.heap_setCell _ _ _ _ hk, Below.heap_setCell _ _ _ _ hk, Below.heap_setCell _ _ _ _ hk]

set_option maxRecDepth 100000 in
set_option maxHeartbeats 4000000 in
theorem cformIn (x a b c : Int) (hx : U32 x) (hk : keyW x (bitsV x 0 7) (bitsV x 12 3) (bitsV x 25 7) = (a, b, c)) (ha : U32 a) (hb : U32 b) (hc : U32 c) (s : ByteArray) (la o f g : Int) (ok : Bool) (hf : foundK a a b c (.agg #[.string s, .int .i64 la, .int .u32 o, .int .u32 f, .int .u32 g]) ok) (w : World) :
    Calls Try.prog 24 #[.int .u32 x] w fun e w' => e = .returned (.tuple #[.agg #[.string s, .int .i64 la, .int .u32 o, .int .u32 f, .int .u32 g], .bool ok]) ∧ Below w.heap.size w w' := by
  have CK : Hid _ := ckey x a b c hx hk
  have CL : Hid _ := fun (g' : Nat) (w' : World) => look_at (g := g') (w := w') ha hb hc hf
  clear hx hk ha hb hc hf
  have hm : Try.prog.follows .mixedOrders = true := by kernel_rfl
  go_enter Try.func24, Try.ntmps24
  go_wp2_with fail
  refine (CK.out _).mono ?_
  rintro e w1 ⟨rfl, hb1⟩
  have HB : Hid (Below w.heap.size w w1) := below_first hb1
  have hr := kept_block hb1
  clear hb1 CK
  go_wp2_with fail
  have k0 := alloc_at w1 (.cells #[.int .u32 a, .int .u32 b, .int .u32 c] 77)
  have hr2 := kept_on hr ((Below.refl w1.heap.size w1).alloc (Nat.le_refl _) (.cells #[.int .u32 a, .int .u32 b, .int .u32 c] 77))
  have HB2 : Hid (Below w.heap.size w (w1.alloc (.cells #[.int .u32 a, .int .u32 b, .int .u32 c] 77))) := HB.out.alloc HB.out.size _
  clear hr HB
  generalize w1.alloc (.cells #[.int .u32 a, .int .u32 b, .int .u32 c] 77) = V at *
  generalize w1.heap.size = kb at *
  have Kc : ∀ w', Below V.heap.size V w' → ∀ (i : Nat) (v : Value), #[Value.int .u32 a, .int .u32 b, .int .u32 c][i]? = some v → w'.cell? ⟨kb, i, none⟩ = some v := fun w' h => (cells_of (kept_on k0 h)).1
  refine wp_region_mixh [⟨8, 5, 51, 9, 15, #[.string ⟨#[]⟩, .int .i64 0, .int .u32 0, .int .u32 0, .int .u32 0], #[.string s, .int .i64 la, .int .u32 o, .int .u32 f, .int .u32 g]⟩] ⟨2, 12, fun g => .map (some g), isMapOf a⟩
    [.pointer (some ⟨kb, 0, none⟩), .int .u32 a, undef, .agg #[.int .u32 a, .int .u32 b, .int .u32 c], .tuple #[.agg #[.string s, .int .i64 la, .int .u32 o, .int .u32 f, .int .u32 g], .bool ok], .tuple #[.agg #[.string s, .int .i64 la, .int .u32 o, .int .u32 f, .int .u32 g], .bool ok], .agg #[.string s, .int .i64 la, .int .u32 o, .int .u32 f, .int .u32 g], .bool ok, undef, undef, .bool ok]
    hm (by kernel_rfl) ?_ (by exact (by decide : 12 < 19)) (isMapOf_kept a) ?_ ?_ ?_ ?_
  · intro r hr
    simp only [List.mem_cons, List.not_mem_nil, or_false] at hr
    subst hr
    exact (by decide : 5 < 19)
  · generalize hl : lay _ _ _ = af
    have E : ∀ g' k v, k ≠ 12 → af.tmps[k]?.getD undef = v → ((af.put (some 12) (.map (some g'))).tmps[k]?).getD undef = v := fun g' k v hk hv => by rw [put_other (fun e => hk (Option.some.inj e).symm)]; exact hv
    have e4 := fun g' => E g' 4 (.pointer (some ⟨kb, 0, none⟩)) (by decide) (by rw [← hl]; kernel_rfl)
    have e10 := fun g' => E g' 10 (.pointer (some ⟨kb, 0, none⟩)) (by decide) (by rw [← hl]; kernel_rfl)
    have e13 := fun g' => E g' 13 (.agg #[.int .u32 a, .int .u32 b, .int .u32 c]) (by decide) (by rw [← hl]; kernel_rfl)
    have e14 := fun g' => E g' 14 (.tuple #[.agg #[.string s, .int .i64 la, .int .u32 o, .int .u32 f, .int .u32 g], .bool ok]) (by decide) (by rw [← hl]; kernel_rfl)
    have e9 := fun g' => E g' 9 (.tuple #[.agg #[.string s, .int .i64 la, .int .u32 o, .int .u32 f, .int .u32 g], .bool ok]) (by decide) (by rw [← hl]; kernel_rfl)
    have e16 := fun g' => E g' 16 (.bool ok) (by decide) (by rw [← hl]; kernel_rfl)
    have e11 : af.tmps[11]?.getD undef = .int .u32 a := by rw [← hl]; kernel_rfl
    have e12 : ∀ g', ((af.put (some 12) (.map (some g'))).tmps[12]?).getD undef = .map (some g') := fun g' => by
      rw [put_same]
      · rfl
      · rw [← hl, (lay_size _ _ _).1]; exact (by decide : 12 < 19)
    clear hl E
    refine listH_plain (show (0 : Nat) ≠ 2 by decide) (fun g' w' hw hΦ => ?_) ?_
    · show Oper.quietAt Try.prog _ (af.put (some 12) (.map (some g'))) _ _ _
      have q4 := e4 g'
      generalize af.put (some 12) (.map (some g')) = A at q4 ⊢
      exact quiet_run (by simp [execOp, go_sem, q4])
    refine listH_plain (show (1 : Nat) ≠ 2 by decide) (fun g' w' hw hΦ => ?_) ?_
    · show Oper.quietAt Try.prog _ (af.put (some 12) (.map (some g'))) _ _ _
      have q10 := e10 g'
      generalize af.put (some 12) (.map (some g')) = A at q10 ⊢
      have c0 := Kc w' hw 0 (.int .u32 a) rfl
      exact quiet_run (by simp [execOp, go_sem, q10, c0])
    refine listH_call rfl (fun w' hw => ?_) ?_
    · have hrun : (execOp af.eval { dst := some 12, op := Op.call { callee := Callee.value (Operand.func 36), args := #[Operand.tmp 11], argTypes := #[24] }, type := 79, pos := "forms.go:92", after := #[{ on := 1, ground := Ground.data }], guard := none }).run Try.prog w' = .ok (.enter 36 #[.int .u32 a]) w' := by simp [go_sem, e11]
      unfold callAt
      rw [hrun]
      refine ⟨rfl, (cformsWith a w').mono ?_⟩
      rintro e w2 ⟨g', n, D, rfl, h1, h2, h3, h4⟩
      exact ⟨g', rfl, h1, h3.lt, h2, n, D, h3, h4⟩
    refine listH_plain (show (3 : Nat) ≠ 2 by decide) (fun g' w' hw hΦ => ?_) ?_
    · show Oper.quietAt Try.prog _ (af.put (some 12) (.map (some g'))) _ _ _
      have q4 := e4 g'
      generalize af.put (some 12) (.map (some g')) = A at q4 ⊢
      have c0 := Kc w' hw 0 (.int .u32 a) rfl
      have c1 := Kc w' hw 1 (.int .u32 b) rfl
      have c2 := Kc w' hw 2 (.int .u32 c) rfl
      exact quiet_run (by simp [execOp, go_sem, q4, c0, c1, c2])
    refine listH_plain (show (4 : Nat) ≠ 2 by decide) (fun g' w' hw hΦ => ?_) ?_
    · show Oper.quietAt Try.prog _ (af.put (some 12) (.map (some g'))) _ _ _
      have q12 := e12 g'
      have q13 := e13 g'
      generalize af.put (some 12) (.map (some g')) = A at q12 q13 ⊢
      have hl := CL.out g' w' (hΦ rfl)
      exact quiet_run (by simp [execOp, go_sem, q12, q13, hl])
    refine listH_plain (show (5 : Nat) ≠ 2 by decide) (fun g' w' hw hΦ => ?_) ?_
    · show Oper.quietAt Try.prog _ (af.put (some 12) (.map (some g'))) _ _ _
      have q14 := e14 g'
      generalize af.put (some 12) (.map (some g')) = A at q14 ⊢
      exact quiet_run (by simp [execOp, go_sem, q14])
    refine listH_plain (show (6 : Nat) ≠ 2 by decide) (fun g' w' hw hΦ => ?_) ?_
    · show Oper.quietAt Try.prog _ (af.put (some 12) (.map (some g'))) _ _ _
      have q9 := e9 g'
      generalize af.put (some 12) (.map (some g')) = A at q9 ⊢
      exact quiet_run (by simp [execOp, go_sem, q9])
    refine listH_plain (show (7 : Nat) ≠ 2 by decide) (fun g' w' hw hΦ => ?_) ?_
    · show Oper.quietAt Try.prog _ (af.put (some 12) (.map (some g'))) _ _ _
      have q9 := e9 g'
      generalize af.put (some 12) (.map (some g')) = A at q9 ⊢
      exact quiet_run (by simp [execOp, go_sem, q9])
    refine And.intro True.intro ?_
    refine And.intro True.intro ?_
    refine listH_plain (show (10 : Nat) ≠ 2 by decide) (fun g' w' hw hΦ => ?_) ?_
    · show Oper.quietAt Try.prog _ (af.put (some 12) (.map (some g'))) _ _ _
      have q16 := e16 g'
      generalize af.put (some 12) (.map (some g')) = A at q16 ⊢
      exact quiet_run (by simp [execOp, go_sem, q16])
    exact True.intro
  · intro r hr
    simp only [List.mem_cons, List.not_mem_nil, or_false] at hr
    subst hr
    exact allocF
  · intro r hr
    simp only [List.mem_cons, List.not_mem_nil, or_false] at hr
    generalize hl : lay _ _ _ = af
    have e15 : af.eval (.tmp 15) = .agg #[.string s, .int .i64 la, .int .u32 o, .int .u32 f, .int .u32 g] := by rw [← hl]; kernel_rfl
    clear hl
    subst hr
    intro w' b' hb
    rw [e15]
    exact storeF s la o f g w' b' hb
  intro β g0 W hW hbl hap
  have q5 := hbl _ (by simp : ⟨8, 5, 51, 9, 15, #[.string ⟨#[]⟩, .int .i64 0, .int .u32 0, .int .u32 0, .int .u32 0], #[.string s, .int .i64 la, .int .u32 o, .int .u32 f, .int .u32 g]⟩ ∈ _)
  simp at q5
  simp [putAl, lay, Act.put]
  generalize β 5 = x5 at *
  clear hbl hap CL Kc
  obtain ⟨c5, _, z5⟩ := cells_of q5.2.2
  have c50 := c5 0 (.string s) rfl
  have c51 := c5 1 (.int .i64 la) rfl
  have c52 := c5 2 (.int .u32 o) rfl
  have c53 := c5 3 (.int .u32 f) rfl
  have c54 := c5 4 (.int .u32 g) rfl
  obtain ⟨rc, rf, zr⟩ := cells_of (kept_on hr2 hW)
  have rc0 := rc 0 (.string ⟨#[]⟩) rfl
  have rc1 := rc 1 (.int .i64 0) rfl
  have rc2 := rc 2 (.int .u32 0) rfl
  have rc3 := rc 3 (.int .u32 0) rfl
  have rc4 := rc 4 (.int .u32 0) rfl
  have rf0 := rf 0
  have rf1 := rf 1
  have rf2 := rf 2
  have rf3 := rf 3
  have rf4 := rf 4
  have HB3 : Hid (Below w.heap.size w W) := below_step HB2.out hW
  clear c5 rc rf q5 k0 hr2 hW
  go_wp2
  obtain ⟨Y, hY, y0, y1, y2, y3, y4, sY, _, bY⟩ := five_put (v0 := .string s) (v1 := .int .i64 la) (v2 := .int .u32 o) (v3 := .int .u32 f) (v4 := .int .u32 g) rc0 rc1 rc2 rc3 rc4 HB3.out
  rw [← hY]
  clear hY
  exact bodyPost_ret (v := .tuple #[.agg #[.string s, .int .i64 la, .int .u32 o, .int .u32 f, .int .u32 g], .bool ok]) (by simp [results, Try.results24, go_sem, y0, y1, y2, y3, y4]) rfl ⟨rfl, bY⟩
end Go.Proofs.Ytbdfaepljgajbaa
