/-
  Any word, told as the document has it: the contract of the code's own Get.
-/
import Derived.Test.YtbdfaepljgajbaaCodet
namespace Go.Proofs.Ytbdfaepljgajbaa
open Go.RowKit

set_option maxRecDepth 100000 in
set_option maxHeartbeats 2000000 in
theorem get_yes (x : Int) (s : ByteArray) (la o f g d a b m : Int)
    (CI : ∀ w, Calls Try.prog 24 #[.int .u32 x] w fun e w' => e = .returned (.tuple #[.agg #[.string s, .int .i64 la, .int .u32 o, .int .u32 f, .int .u32 g], .bool true]) ∧ Below w.heap.size w w')
    (CD : ∀ w, Calls Try.prog 25 #[.agg #[.string s, .int .i64 la, .int .u32 o, .int .u32 f, .int .u32 g], .int .u32 x] w fun e w' => e = .returned (.agg #[.string s, .int .i64 d, .int .i64 a, .int .i64 b, .int .i32 m]) ∧ Below w.heap.size w w') (w : World) :
    Calls Try.prog 10 #[.int .u32 x] w fun e w' => e = .returned (.tuple #[.agg #[.string s, .int .i64 d, .int .i64 a, .int .i64 b, .int .i32 m], .int .i64 0]) ∧ Below w.heap.size w w' := by
  have CI' : Hid _ := CI
  have CD' : Hid _ := CD
  clear CI CD
  go_enter Try.func10, Try.ntmps10
  go_wp2_with fail
  refine (CI'.out _).mono ?_
  rintro e w1 ⟨rfl, hb1⟩
  have HB := below_first hb1
  have hr := kept_block hb1
  clear hb1
  go_wp2_with fail
  refine (CD'.out _).mono ?_
  rintro e w2 ⟨rfl, hb2⟩
  have HB2 : Hid (Below w.heap.size w w2) := below_step HB (below_first hb2)
  obtain ⟨rc, rf, zr⟩ := cells_of (kept_on hr (below_first hb2))
  have rc0 := rc 0 (.string ⟨#[]⟩) rfl
  have rc1 := rc 1 (.int .i64 0) rfl
  have rc2 := rc 2 (.int .i64 0) rfl
  have rc3 := rc 3 (.int .i64 0) rfl
  have rc4 := rc 4 (.int .i32 0) rfl
  have rf0 := rf 0
  have rf1 := rf 1
  have rf2 := rf 2
  have rf3 := rf 3
  have rf4 := rf 4
  clear rc rf hr hb2 HB
  go_wp2
  obtain ⟨Y, hY, y0, y1, y2, y3, y4, sY, _, bY⟩ := five_put (v0 := .string s) (v1 := .int .i64 d) (v2 := .int .i64 a) (v3 := .int .i64 b) (v4 := .int .i32 m) rc0 rc1 rc2 rc3 rc4 HB2.out
  rw [← hY]
  clear hY
  exact bodyPost_ret (v := .tuple #[.agg #[.string s, .int .i64 d, .int .i64 a, .int .i64 b, .int .i32 m], .int .i64 0]) (by simp [results, Try.results10, go_sem, y0, y1, y2, y3, y4]) rfl ⟨rfl, bY⟩

set_option maxHeartbeats 2000000 in
theorem get_no (x : Int) (s : ByteArray) (la o f g : Int)
    (CI : ∀ w, Calls Try.prog 24 #[.int .u32 x] w fun e w' => e = .returned (.tuple #[.agg #[.string s, .int .i64 la, .int .u32 o, .int .u32 f, .int .u32 g], .bool false]) ∧ Below w.heap.size w w') (w : World) :
    Calls Try.prog 10 #[.int .u32 x] w fun e w' => e = .returned (.tuple #[.agg #[.string ⟨#[]⟩, .int .i64 0, .int .i64 0, .int .i64 0, .int .i32 0], .int .i64 3]) ∧ Below w.heap.size w w' := by
  have CI' : Hid _ := CI
  clear CI
  go_enter Try.func10, Try.ntmps10
  go_wp2_with fail
  refine (CI'.out _).mono ?_
  rintro e w1 ⟨rfl, hb1⟩
  have HB : Hid (Below w.heap.size w (w1.alloc (.cells #[.string s, .int .i64 la, .int .u32 o, .int .u32 f, .int .u32 g] 51))) := (below_first hb1).alloc (below_first hb1).size _
  obtain ⟨rc, rf, zr⟩ := cells_of (kept_on (kept_block hb1) ((Below.refl w1.heap.size w1).alloc (Nat.le_refl _) (.cells #[.string s, .int .i64 la, .int .u32 o, .int .u32 f, .int .u32 g] 51)))
  have rc0 := rc 0 (.string ⟨#[]⟩) rfl
  have rc1 := rc 1 (.int .i64 0) rfl
  have rc2 := rc 2 (.int .i64 0) rfl
  have rc3 := rc 3 (.int .i64 0) rfl
  have rc4 := rc 4 (.int .i32 0) rfl
  have rf0 := rf 0
  have rf1 := rf 1
  have rf2 := rf 2
  have rf3 := rf 3
  have rf4 := rf 4
  clear rc rf hb1
  go_wp2_with fail
  generalize w1.alloc (.cells #[.string s, .int .i64 la, .int .u32 o, .int .u32 f, .int .u32 g] 51) = V at *
  obtain ⟨Y, hY, y0, y1, y2, y3, y4, sY, _, bY⟩ := five_put (v0 := .string ⟨#[]⟩) (v1 := .int .i64 0) (v2 := .int .i64 0) (v3 := .int .i64 0) (v4 := .int .i32 0) rc0 rc1 rc2 rc3 rc4 HB.out
  rw [← hY]
  clear hY
  exact bodyPost_ret (v := .tuple #[.agg #[.string ⟨#[]⟩, .int .i64 0, .int .i64 0, .int .i64 0, .int .i32 0], .int .i64 3]) (by simp [results, Try.results10, go_sem, y0, y1, y2, y3, y4]) rfl ⟨rfl, bY⟩

theorem get_of {x : Int} {j : Nat} (hj : j < 53) (h : hasB (formAt j).2 x = true) : getV x = some (insOf (formAt j) x) := by
  have hm := formAt_mem j hj
  unfold getV
  cases hf : forms.find? fun q => hasB q.2 x with
  | none => exact absurd h (by simpa using List.find?_eq_none.1 hf _ hm)
  | some q =>
    have hq := List.mem_of_find?_eq_some hf
    have hb : hasB q.2 x = true := by simpa using List.find?_some hf
    have e1 := forms_apart hq hm x ((hasB_iff _ _).1 hb) ((hasB_iff _ _).1 h)
    have e2 : q.2 = (formAt j).2 := by rw [← formV_of_mem hq, e1, formV_of_mem hm]
    have e3 : q = formAt j := Prod.ext e1 e2
    rw [e3]
    rfl

theorem cGet (x : Int) (hx : U32 x) : ∃ s d a b m ok, toldOf x s d a b m ok ∧ ∀ w, Calls Try.prog 10 #[.int .u32 x] w fun e w' =>
    e = .returned (.tuple #[.agg #[.string s, .int .i64 d, .int .i64 a, .int .i64 b, .int .i32 m], .int .i64 (if ok then 0 else 3)]) ∧ Below w.heap.size w w' := by
  obtain ⟨k1, k2, k3⟩ := key_fields x hx
  obtain ⟨a, b, c, hk⟩ : ∃ a b c, keyW x (x % 128) (x / 4096 % 8) (x / 33554432) = (a, b, c) := ⟨_, _, _, rfl⟩
  obtain ⟨ha, hb, hc⟩ := key_u32 hx hk
  obtain ⟨s, la, o, f, g, ok, hf⟩ := foundK_some a a b c
  have hiff : ∀ j, j < 53 → ((fo j = a ∧ fg j = b ∧ ff j = c) ↔ hasB (formAt j).2 x = true) := fun j hj => (key_has _ (formAt_mem j hj) x a b c hx hk).trans (hasB_iff _ _).symm
  have CI := cformIn x a b c hx (by rw [k1, k2, k3]; exact hk) ha hb hc s la o f g ok hf
  rcases hf with ⟨j, hj, h1, h2, h3, h4, rfl, h6⟩ | ⟨h1, rfl, h3⟩
  · simp only [Value.agg.injEq, Array.mk.injEq, List.cons.injEq, Value.string.injEq, Value.int.injEq, true_and, and_true] at h6
    obtain ⟨rfl, rfl, rfl, rfl, rfl⟩ := h6
    have hh := (hiff j hj).1 ⟨h2, h3, h4⟩
    have hkind := kinds (opAt j).toList
    have hkne := kind_ne j hj
    rw [formV_opAt j hj] at hkind hkne
    refine ⟨opAt j, readD (formAt j).2.k x, readA (formAt j).2.k x, readB (formAt j).2.k x, readM (formAt j).2.k x, true, Or.inl ⟨rfl, ?_⟩, ?_⟩
    · rw [get_of hj hh, opAt_form j hj]; rfl
    · exact get_yes x _ _ _ _ _ _ _ _ _ CI (fun w => cdecode _ _ _ _ _ _ (by omega) hx w)
  · refine ⟨⟨#[]⟩, 0, 0, 0, 0, false, Or.inr ⟨rfl, rfl, rfl, rfl, rfl, rfl, find_not (fun j hj => ?_)⟩, get_no x _ _ _ _ _ CI⟩
    cases hh : hasB (formAt j).2 x with
    | false => rfl
    | true =>
      have := (hiff j hj).2 hh
      exact absurd this (h1 j hj this.1)
end Go.Proofs.Ytbdfaepljgajbaa
