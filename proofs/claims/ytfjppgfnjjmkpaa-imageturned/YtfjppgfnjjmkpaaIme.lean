/-
  Package image: rightsStand.
-/
import Derived.Test.YtfjppgfnjjmkpaaImd
namespace Go.Proofs.Ytfjppgfnjjmkpaa
open Go.RowKit

set_option maxRecDepth 100000 in
set_option maxHeartbeats 2000000 in
theorem iRights {w : World} {i : Im} {b off : Nat} (hp : PartsAt w b off i.pa i.ps) (ho : ImOk i) :
    Calls Try.prog 19 #[.agg i.cells] w fun e w' => e = .returned (.bool (rightsV i)) ∧ Below w.heap.size w w' := by
  have HP : Hid _ := hp
  have HO : Hid _ := ho
  have hfew : i.ps.length ≤ 1000 := ho.few
  have CE : Hid _ := iEmpty
  have CH : Hid _ := iHas
  obtain ⟨fp, hfp⟩ := undPt
  obtain ⟨fr, hfr⟩ := undRg
  have HFP : Hid _ := hfp
  have HFR : Hid _ := hfr
  obtain ⟨RV, hRV⟩ : ∃ RV, RV = rightsV i := ⟨_, rfl⟩
  have HRV : Hid (RV = rightsV i) := hRV
  rw [← hRV]
  clear hp ho hfp hfr hRV
  obtain ⟨wa, wl, wc, ⟨klo, khi, kx, kw⟩, ⟨slo, shi, sx, sw⟩, pa, pc, ps⟩ := i
  unfold Im.cells
  simp only at *
  have B1 : Hid (Below w.heap.size w (w.alloc (.cells #[.slice wa wl wc, .int .u32 klo, .int .u32 khi, .bool kx, .bool kw, .int .u32 slo, .int .u32 shi, .bool sx, .bool sw, .slice pa ps.length pc] 28))) := (Below.refl _ _).alloc (Nat.le_refl _) _
  have N1 : Hid ((w.alloc (.cells #[.slice wa wl wc, .int .u32 klo, .int .u32 khi, .bool kx, .bool kw, .int .u32 slo, .int .u32 shi, .bool sx, .bool sw, .slice pa ps.length pc] 28)).heap[w.heap.size]? = some (.cells #[.slice wa wl wc, .int .u32 klo, .int .u32 khi, .bool kx, .bool kw, .int .u32 slo, .int .u32 shi, .bool sx, .bool sw, .slice pa ps.length pc] 28)) := alloc_at _ _
  by_cases hk : klo = 0
  · have CE1 : Hid _ := CE.out ⟨klo, khi, kx, kw⟩
    cases he : isEmptyV ⟨klo, khi, kx, kw⟩
    · rw [he] at CE1
      have hk' : (klo == 0) = true := by simp [hk]
      unfold rgV at CE1
      have HR2 : Hid (RV = ps.all rightsP) := by
        show RV = ps.all rightsP
        rw [HRV.out]
        unfold rightsV
        simp only
        rw [he, hk']
        rfl
      have hk2 : (klo != 0) = false := by simp [hk]
      clear he hk HRV
      generalize hln : ps.length = n at *
      have HLN : Hid (ps.length = n) := hln
      clear hln
      go_enter Try.func19, Try.ntmps19
      go_wp2_with fail
      refine (CE1.out _).mono ?_
      rintro e w2 ⟨rfl, b2⟩
      have B2 : Hid _ := below_step B1.out b2
      have c9 : w2.cell? ⟨w.heap.size, 9, none⟩ = some (.slice pa n pc) := (cells_of (kept_on N1.out b2)).1 9 _ rfl
      clear b2
      go_wp2_with fail
      go_loopw [19] (fun x wr => ∃ (k : Nat) (V : World), V = wr ∧ k ≤ n ∧ x = .int .i64 k ∧ Hid ((∀ j y, j < k → ps[j]? = some y → rightsP y = true) ∧ Below w.heap.size w V)) (fun x _ => n - (intOf x).toNat)
      case atStart => exact ⟨0, _, rfl, Nat.zero_le _, rfl, fun j y hj => by omega, B2.out⟩
      case round =>
        clear c9 B2 CE1 CE
        obtain ⟨k, V, rfl, hk, rfl, hr⟩ := hrel
        by_cases hlt : k < n
        · obtain ⟨p, hx⟩ : ∃ p, ps[k]? = some p := ⟨_, List.getElem?_eq_getElem (by rw [HLN.out]; exact hlt)⟩
          have HX : Hid _ := hx
          have I1 : Hid _ := HP.out.below hr.out.2
          obtain ⟨ea, hb⟩ := I1.out.at' (I1.out.lt hx)
          subst ea
          have k0 : (0 : Int) ≤ (k : Int) := by omega
          have k1 : (k : Int) < (n : Int) := by omega
          have PO : Hid _ := HO.out.ps p (List.mem_of_getElem? hx)
          have PA : Hid _ := I1.out.in' p (List.mem_of_getElem? hx)
          clear hb hx
          go_wp2_with (first | (refine wpList_mids (by rfl) 40 (.tmp 21) rfl b (off + k * 11) rfl p.cells _ (I1.out.row k p HX.out) HFP.out rfl (by rw [Pt.size]; exact infoPt) ?_) | (refine wpList_fill rfl 40 (.tmp 4) (.tmp 22) rfl rfl p.cells rfl 40 _ (by rw [Pt.size]; exact infoPt) (by rw [Pt.size]; rfl) (Pt.one p) ?_))
          intro V2 R2 b2
          have RR : Hid _ := R2
          have B2 : Hid _ := below_step hr.out.2 b2
          have PA2 : Hid _ := PA.out.below b2
          clear b2 I1 R2 PA
          go_wp2_with (first | (refine wpList_mids (by rfl) 25 (.tmp 23) rfl V.heap.size 1 rfl #[.int .u32 p.code.lo, .int .u32 p.code.hi, .bool p.code.x, .bool p.code.w] _ (pt_code RR.out) HFR.out rfl infoRg ?_))
          refine (CH.out p.code true false _).mono ?_
          rintro e w3 ⟨rfl, b3⟩
          have B3 : Hid _ := below_step B2.out b3
          have R3 : Hid _ := kept_on RR.out b3
          have PA3 : Hid _ := PA2.out.below b3
          have hnot : rightsP p = false → RV = false := fun h => by rw [HR2.out]; exact all_not HX.out h
          have HNOT : Hid _ := hnot
          clear b3 B2 RR PA2 hnot
          cases h1 : hasV p.code true false
          · have hv : RV = false := HNOT.out (by unfold rightsP; rw [h1]; rfl)
            clear HR2 HNOT
            subst hv
            go_wp2_with fail
            go_ret
            exact ⟨rfl, B3.out⟩
          · have H1 : Hid _ := h1
            clear h1
            go_wp2_with (first | (refine wpList_mids (by rfl) 25 (.tmp 28) rfl V.heap.size 5 rfl #[.int .u32 p.data.lo, .int .u32 p.data.hi, .bool p.data.x, .bool p.data.w] _ (pt_data R3.out) HFR.out rfl infoRg ?_))
            refine (CH.out p.data false true _).mono ?_
            rintro e w4 ⟨rfl, b4⟩
            have B4 : Hid _ := below_step B3.out b4
            have PA4 : Hid _ := PA3.out.below b4
            have c9 : w4.cell? ⟨V.heap.size, 9, none⟩ = some (.slice p.ka p.kl p.kc) := (cells_of (kept_on R3.out b4)).1 9 _ rfl
            clear b4 B3 R3 PA3
            cases h2 : hasV p.data false true
            · have hv : RV = false := HNOT.out (by unfold rightsP; rw [h2, Bool.and_false]; rfl)
              clear HR2 HNOT
              subst hv
              go_wp2_with fail
              go_ret
              exact ⟨rfl, B4.out⟩
            · have H2 : Hid _ := h2
              have hkl : p.kl ≤ 1000 := by rw [PA4.out.kl]; exact PO.out.kl
              clear h2
              go_wp2_with fail
              go_loopw [36] (fun x wr => ∃ (q : Nat) (W : World), W = wr ∧ q ≤ p.kl ∧ x = .int .i64 q ∧ Hid ((∀ j r, j < q → p.ks[j]? = some r → hasV r false false = true) ∧ Below w4.heap.size w4 W)) (fun x _ => p.kl - (intOf x).toNat)
              case atStart => exact ⟨0, _, rfl, Nat.zero_le _, rfl, fun j r hj => by omega, Below.refl _ _⟩
              case round =>
                clear c9
                obtain ⟨q, W, rfl, hq, rfl, hrq⟩ := hrel
                by_cases hql : q < p.kl
                · obtain ⟨r, hy⟩ : ∃ r, p.ks[q]? = some r := ⟨_, List.getElem?_eq_getElem (by rw [← PA4.out.kl]; exact hql)⟩
                  have HY : Hid _ := hy
                  obtain ⟨kb, koff, hrg⟩ := (PA4.out.below hrq.out.2).keys
                  have hka : p.ka = some ⟨kb, koff, none⟩ := hrg.sa (by rw [← PA4.out.kl]; omega)
                  have RG : Hid _ := regs_row hrg hy
                  have q0 : (0 : Int) ≤ (q : Int) := by omega
                  have q1 : (q : Int) < (p.kl : Int) := by omega
                  clear hrg hy
                  rw [hka]
                  go_wp2_with (first | (refine wpList_mids (by rfl) 25 (.tmp 38) rfl kb (koff + q * 4) rfl #[.int .u32 r.lo, .int .u32 r.hi, .bool r.x, .bool r.w] _ RG.out HFR.out rfl infoRg ?_) | (refine wpList_fill rfl 25 (.tmp 6) (.tmp 39) rfl rfl #[.int .u32 r.lo, .int .u32 r.hi, .bool r.x, .bool r.w] rfl 25 _ infoRg rfl (rg_one r) ?_))
                  intro W2 S2 d2
                  have D2 : Hid _ := below_step hrq.out.2 d2
                  clear d2
                  go_wp2_with (first | (refine wpList_row (by rfl) 25 (.tmp 6) rfl W.heap.size rfl 25 #[.int .u32 r.lo, .int .u32 r.hi, .bool r.x, .bool r.w] _ S2 HFR.out rfl infoRg ?_))
                  refine (CH.out r false false _).mono ?_
                  rintro e W3 ⟨rfl, d3⟩
                  have D3 : Hid _ := below_step D2.out d3
                  clear d3 S2 D2
                  cases h3 : hasV r false false
                  · have hv : RV = false := HNOT.out (by unfold rightsP; rw [all_not HY.out h3, Bool.and_false])
                    clear HR2 HNOT
                    subst hv
                    go_wp2_with fail
                    go_ret
                    exact ⟨rfl, below_step B4.out D3.out⟩
                  · have H3 : Hid _ := h3
                    clear h3
                    go_wp2_with fail
                    exact ⟨⟨q + 1, _, rfl, by omega, by go_num, fun j r' hj hr' => by
                      by_cases hj2 : j < q
                      · exact hrq.out.1 j r' hj2 hr'
                      · have : j = q := by omega
                        subst this
                        rw [HY.out] at hr'
                        cases hr'
                        exact H3.out, D3.out⟩, by simp [intOf]; omega⟩
                · have q1 : ¬ (q : Int) < (p.kl : Int) := by omega
                  have hall : rightsP p = true := by
                    unfold rightsP
                    rw [H1.out, H2.out, all_yes (fun j r hj => hrq.out.1 j r (by have := (List.getElem?_eq_some_iff.1 hj).1; rw [← PA4.out.kl] at this; omega) hj)]
                    rfl
                  have HALL : Hid _ := hall
                  clear hall
                  go_wp2_with fail
                  exact ⟨⟨k + 1, _, rfl, hlt, by go_num, fun j y hj hy => by
                    by_cases hj2 : j < k
                    · exact hr.out.1 j y hj2 hy
                    · have : j = k := by omega
                      subst this
                      rw [HX.out] at hy
                      cases hy
                      exact HALL.out, below_step B4.out hrq.out.2⟩, by simp [intOf]; omega⟩
        · have k1 : ¬ (k : Int) < (n : Int) := by omega
          have hv : RV = true := by
            rw [HR2.out]
            exact all_yes (fun j y hy => hr.out.1 j y (by have := (List.getElem?_eq_some_iff.1 hy).1; rw [HLN.out] at this; omega) hy)
          clear HR2
          subst hv
          go_wp2_with fail
          go_ret
          exact ⟨rfl, hr.out.2⟩
    · rw [he] at CE1
      unfold rgV at CE1
      have hk2 : (klo != 0) = false := by simp [hk]
      have hv : RV = false := by
        rw [HRV.out]
        unfold rightsV
        simp only
        rw [he, Bool.not_true, Bool.and_false, Bool.false_and]
      clear HRV he hk
      subst hv
      go_enter Try.func19, Try.ntmps19
      go_wp2_with fail
      refine (CE1.out _).mono ?_
      rintro e w2 ⟨rfl, b2⟩
      have B2 : Hid _ := below_step B1.out b2
      clear b2
      go_wp2_with fail
      go_ret
      exact ⟨rfl, B2.out⟩
  · have hk2 : (klo != 0) = true := by simp [hk]
    have hv : RV = false := by
      rw [HRV.out]
      unfold rightsV
      simp only
      rw [show (klo == 0) = false by simp [hk], Bool.false_and, Bool.false_and]
    clear HRV
    subst hv
    go_enter Try.func19, Try.ntmps19
    go_wp2_with fail
    go_ret
    exact ⟨rfl, B1.out⟩
end Go.Proofs.Ytfjppgfnjjmkpaa
