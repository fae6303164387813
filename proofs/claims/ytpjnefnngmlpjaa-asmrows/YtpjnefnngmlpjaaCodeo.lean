/-
  The form of a name, as the code finds it: the contract of the function that does it.
-/
import Derived.Test.YtpjnefnngmlpjaaCodef
namespace Go.Proofs.Ytpjnefnngmlpjaa
open Go.RowKit

/-- What the code finds of a name. -/
def foundV (s : ByteArray) : Value :=
  if (formV s.toList).k = 0 then .tuple #[.agg #[.string ⟨#[]⟩, .int .i64 0, .int .u32 0, .int .u32 0, .int .u32 0], .bool false]
  else .tuple #[.agg #[.string s, .int .i64 (lay9 (formV s.toList).k), .int .u32 (formV s.toList).o, .int .u32 (formV s.toList).f, .int .u32 (formV s.toList).g], .bool true]

theorem no_form {s : ByteArray} (h : ∀ i, i < 53 → opAt i ≠ s) : formV s.toList = noForm := by
  unfold formV
  cases hl : forms.lookup s.toList with
  | none => rfl
  | some p =>
    exfalso
    have hm := mem_of_lookup hl
    obtain ⟨i, hi, he⟩ := List.getElem_of_mem hm
    rw [forms_len] at hi
    have h1 := formAt_get i hi
    rw [List.getElem?_eq_getElem (by rw [forms_len]; exact hi), he] at h1
    have h2 : formAt i = (s.toList, p) := (Option.some.inj h1).symm
    exact h i hi (bytes_ext (by rw [opAt_form i hi, h2]))

set_option maxRecDepth 100000 in
set_option maxHeartbeats 1000000 in
theorem cformOf (s : ByteArray) (w : World) :
    Calls Try.prog 92 #[.string s] w fun e w' => e = .returned (foundV s) ∧ Below w.heap.size w w' := by
  go_enter Try.func92, Try.ntmps92
  go_wp2_with fail
  refine (cforms _).mono ?_
  rintro e w1 ⟨rfl, hb1⟩
  have HI : Hid (∀ k, k < 53 → ∀ w, (Instr.index 166 (.agg fcells.toArray) (.int .i64 (k : Nat))).run Try.prog w = .ok (.agg (rowC k).toArray) w) := indexF
  have HB1 : Hid _ := hb1
  clear hb1
  generalize fcells.toArray = FC at *
  go_wp2_with fail
  go_loopw [7] (fun i wr => ∃ k : Nat, k ≤ 53 ∧ i = .int .i64 k ∧ Hid (Below w1.heap.size w1 wr) ∧ Hid (∀ i, i < k → opAt i ≠ s)) (fun i _ => 53 - (intOf i).toNat)
  case atStart => exact ⟨0, Nat.zero_le _, rfl, Below.refl _ _, fun j hj => absurd hj (Nat.not_lt_zero j)⟩
  case round =>
    obtain ⟨k, hk, rfl, hbr, hno⟩ := hrel
    have hB0 := below_first HB1.out
    have hwr := kept_on (kept_block HB1.out) hbr.out
    obtain ⟨cc, cf, cs⟩ := cells_of hwr
    have t0 := cc 0 _ rfl
    have t1 := cc 1 _ rfl
    have t2 := cc 2 _ rfl
    have t3 := cc 3 _ rfl
    have t4 := cc 4 _ rfl
    have f0 := cf 0
    have f1 := cf 1
    have f2 := cf 2
    have f3 := cf 3
    have f4 := cf 4
    have HW : Hid (Below w.heap.size w wr) := hB0.trans (hbr.out.mono hB0.size)
    clear cc cf hwr hB0
    by_cases hlt : k < 53
    · have hi := HI.out k hlt wr
      unfold rowC at hi
      by_cases he : (opAt k).toList = s.toList
      · have HV : Hid (formV s.toList = (formAt k).2) := by
          show _ = _
          rw [← he]; exact formV_opAt k hlt
        have HK : Hid ((formAt k).2.k ≠ 0) := by
          show ¬ _ = _
          rw [← formV_opAt k hlt]; exact kind_ne k hlt
        have HS : Hid (opAt k = s) := bytes_ext he
        obtain ⟨la, HL⟩ : ∃ la, Hid (lay9 (formAt k).2.k = la) := ⟨_, rfl⟩
        rw [HL.out] at hi
        generalize (formAt k).2 = p at *
        go_wp2_with fail
        obtain ⟨Y, hY, y0, y1, y2, y3, y4, sY, _, bY⟩ := five_put (v0 := .string (opAt k)) (v1 := .int .i64 la) (v2 := .int .u32 p.o) (v3 := .int .u32 p.f) (v4 := .int .u32 p.g) t0 t1 t2 t3 t4 HW.out
        rw [← hY]
        clear hY
        refine bodyPost_ret (v := .tuple #[.agg #[.string (opAt k), .int .i64 la, .int .u32 p.o, .int .u32 p.f, .int .u32 p.g], .bool true]) ?_ rfl ?_
        · simp [results, Try.results92, go_sem, y0, y1, y2, y3, y4, sY]
        · refine ⟨?_, bY.alloc (Nat.le_of_lt sY) _⟩
          unfold foundV
          rw [HV.out, if_neg HK.out, HS.out, HL.out]
      · have hbf : ((opAt k).toList == s.toList) = false := by simpa using he
        have HN : Hid (∀ i, i < k + 1 → opAt i ≠ s) := fun i hi => by
          rcases Nat.lt_succ_iff_lt_or_eq.mp hi with h | h
          · exact hno.out i h
          · rw [h]; exact fun e => he (by rw [e])
        clear he hno
        generalize lay9 (formAt k).2.k = la at *
        generalize (formAt k).2 = p at *
        go_wp2_with fail
        refine ⟨⟨k + 1, by omega, by go_num, ?_, HN⟩, by simp [intOf]; omega⟩
        exact hbr.out.alloc hbr.out.size _
    · have hk53 : k = 53 := by omega
      subst hk53
      have HV : Hid (formV s.toList = noForm) := no_form hno.out
      go_wp2
      obtain ⟨Y, hY, y0, y1, y2, y3, y4, sY, _, bY⟩ := five_put (v0 := .string ⟨#[]⟩) (v1 := .int .i64 0) (v2 := .int .u32 0) (v3 := .int .u32 0) (v4 := .int .u32 0) t0 t1 t2 t3 t4 HW.out
      rw [← hY]
      clear hY
      refine bodyPost_ret (v := .tuple #[.agg #[.string ⟨#[]⟩, .int .i64 0, .int .u32 0, .int .u32 0, .int .u32 0], .bool false]) ?_ rfl ?_
      · simp [results, Try.results92, go_sem, y0, y1, y2, y3, y4]
      · refine ⟨?_, bY⟩
        unfold foundV
        rw [HV.out]
        rfl
end Go.Proofs.Ytpjnefnngmlpjaa
