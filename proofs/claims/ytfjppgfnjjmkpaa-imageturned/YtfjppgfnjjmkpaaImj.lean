/-
  Package image: the range through an image's regions: the iterator's contract.
-/
import Derived.Test.YtfjppgfnjjmkpaaImi
namespace Go.Proofs.Ytfjppgfnjjmkpaa
open Go.RowKit Go.Shelf
attribute [local go_sem] Oper.semAt_some

set_option maxRecDepth 100000 in
set_option maxHeartbeats 2000000 in
theorem iReg1 {Pr : Rg → Prop} (F : Fence) (n : Nat) (hF : F.fn 31) (hro : F.round = none) (hn : 1 ≤ n) (l Bn : Nat) (i : Im) (b off : Nat) (xs : List {r : Rg // Pr r}) (hx : xs.map (·.1) = regL i) (hps : i.ps.length ≤ 1000)
    (J Jx : List {r : Rg // Pr r} → World → Prop) (W : World)
    (hJ : AbidesFrom W.heap.size J)
    (hY : ∀ pre x W1, J pre W1 → pre.length < xs.length → YieldAt F (n - 1) Try.prog l #[rgV x.1] W1 fun e W' =>
      (e = .returned (.bool true) ∧ J (pre ++ [x]) W' ∧ KC W1 W') ∨ (e = .returned (.bool false) ∧ Jx (pre ++ [x]) W'))
    (hbox : W.heap[Bn]? = some (.cells i.cells 28)) (hpa : 0 < i.ps.length → i.pa = some ⟨b, off, none⟩) (hrow : ∀ k p, i.ps[k]? = some p → W.rangeAt b (off + k * 11) p.cells.toList) (h0 : J [] W) :
    CallsIn F n Try.prog 31 #[.func (.yield l) #[] #[], .pointer (some ⟨Bn, 0, none⟩)] W fun e W' => (∃ v, e = .returned v) ∧
      ((∃ ys, ys = xs ∧ J ys W') ∨ (∃ pre, pre <+: xs ∧ Jx pre W')) := by
  have HJ : Hid _ := hJ
  have HY : Hid _ := hY
  have HBX : Hid _ := hbox
  have HPA : Hid _ := hpa
  have HRW : Hid _ := hrow
  have HX : Hid _ := hx
  have HLX : Hid (xs.length = 2 + 2 * i.ps.length) := by
    show xs.length = _
    rw [← reg_len, ← hx, List.length_map]
  obtain ⟨fp, hfp⟩ := undPt
  obtain ⟨fr, hfr⟩ := undRg
  have HFP : Hid _ := hfp
  have HFR : Hid _ := hfr
  obtain ⟨x0, hx0, hv0⟩ := val_at hx (j := 0) (r := i.kern) rfl
  obtain ⟨x1, hx1, hv1⟩ := val_at hx (j := 1) (r := i.keys) rfl
  have HX0 : Hid _ := hx0
  have HX1 : Hid _ := hx1
  have HV1 : Hid _ := hv1
  have KERN : Hid (∀ V : World, V.heap[Bn]? = some (.cells i.cells 28) → V.rangeAt Bn 1 [.int .u32 i.kern.lo, .int .u32 i.kern.hi, .bool i.kern.x, .bool i.kern.w]) := fun V hV => range_of hV (fun j v hv => by
    match j, hv with
    | 0, hv => exact hv
    | 1, hv => exact hv
    | 2, hv => exact hv
    | 3, hv => exact hv)
  have KEYS : Hid (∀ V : World, V.heap[Bn]? = some (.cells i.cells 28) → V.rangeAt Bn 5 [.int .u32 i.keys.lo, .int .u32 i.keys.hi, .bool i.keys.x, .bool i.keys.w]) := fun V hV => range_of hV (fun j v hv => by
    match j, hv with
    | 0, hv => exact hv
    | 1, hv => exact hv
    | 2, hv => exact hv
    | 3, hv => exact hv)
  have CELL : Hid (∀ V : World, V.heap[Bn]? = some (.cells i.cells 28) → V.cell? ⟨Bn, 9, none⟩ = some (.slice i.pa i.ps.length i.pc)) := fun V hV => (cells_of hV).1 9 _ rfl
  obtain ⟨fn, tmps, assign, body, hy, hR⟩ := hY [] x0 W h0 (by rw [HLX.out]; show 0 < _; omega)
  rw [hv0] at hy
  unfold rgV at hy
  clear hJ hY hbox hpa hrow hx hfp hfr hx0 hv0 hx1 hv1 h0
  generalize hm : i.ps.length = m at *
  have HM : Hid (i.ps.length = m) := hm
  clear hm
  refine callsIn_of_wp Try.func31 rfl hF ?_ hro
  simp only [Try.ntmps31, List.size_toArray, List.length_cons, List.length_nil, Nat.reduceAdd, Nat.reduceSub, Array.replicate_succ, Array.replicate_zero, List.push_toArray, List.append_toArray, List.nil_append, List.cons_append]
  gi_wp2_with (first | (refine wpListIn_mids (by rfl) 25 (.tmp 6) rfl Bn 1 rfl #[.int .u32 i.kern.lo, .int .u32 i.kern.hi, .bool i.kern.x, .bool i.kern.w] _ (KERN.out _ HBX.out) HFR.out rfl infoRg ?_))
  have T1 : Hid ([] ++ [x0] = xs.take 1) := by
    show [] ++ [x0] = xs.take 1
    rw [take_more HX0.out, List.take_zero]
  have T2 : Hid (xs.take 1 ++ [x1] = xs.take 2) := (take_more HX1.out).symm
  refine hR.mono ?_
  rintro e W3 (⟨rfl, hJ3, hk3⟩ | ⟨rfl, hJx3⟩)
  · rw [T1.out] at hJ3
    obtain ⟨fn2, tm2, as2, bo2, hy2, hR2⟩ := HY.out (xs.take 1) x1 W3 hJ3 (by rw [List.length_take, HLX.out]; omega)
    rw [HV1.out] at hy2
    unfold rgV at hy2
    have BX3 : Hid _ := hk3.same _ _ _ _ HBX.out
    have K3 : Hid _ := hk3
    clear hy hR hJ3 hk3
    gi_wp2_with (first | (refine wpListIn_mids (by rfl) 25 (.tmp 12) rfl Bn 5 rfl #[.int .u32 i.keys.lo, .int .u32 i.keys.hi, .bool i.keys.x, .bool i.keys.w] _ (KEYS.out _ BX3.out) HFR.out rfl infoRg ?_))
    refine hR2.mono ?_
    rintro e W4 (⟨rfl, hJ4, hk4⟩ | ⟨rfl, hJx4⟩)
    · rw [T2.out] at hJ4
      have K4 : Hid _ := K3.out.trans hk4
      have J4 : Hid _ := hJ4
      have c9 : W4.cell? ⟨Bn, 9, none⟩ = some (.slice i.pa m i.pc) := by
        exact CELL.out _ (hk4.same _ _ _ _ BX3.out)
      clear hy2 hR2 hJ4 hk4 K3 BX3
      gi_wp2
      gi_loopw [20] (fun x wr => ∃ (k : Nat) (V : World), V = wr ∧ k ≤ m ∧ x = .int .i64 k ∧ Hid (J (xs.take (2 + 2 * k)) V ∧ KC W V)) (fun x _ => m - (intOf x).toNat)
      case atStart => exact ⟨0, _, rfl, Nat.zero_le _, rfl, J4.out, K4.out⟩
      case round =>
        clear c9 J4 K4
        obtain ⟨k, V, rfl, hk, rfl, hr⟩ := hrel
        by_cases hlt : k < m
        · obtain ⟨p, hxp⟩ : ∃ p, i.ps[k]? = some p := ⟨_, List.getElem?_eq_getElem (by rw [HM.out]; exact hlt)⟩
          have HXP : Hid _ := hxp
          have ea := HPA.out (by omega)
          rw [ea]
          have k0 : (0 : Int) ≤ (k : Int) := by omega
          have k1 : (k : Int) < (m : Int) := by omega
          have RW : Hid _ := hr.out.2.range (HRW.out k p hxp)
          obtain ⟨xa, hxa, hva⟩ := val_at HX.out (reg_code hxp)
          obtain ⟨xd, hxd, hvd⟩ := val_at HX.out (reg_data hxp)
          have HXA : Hid _ := hxa
          have HVA : Hid _ := hva
          have HXD : Hid _ := hxd
          have HVD : Hid _ := hvd
          clear hxp ea hxa hva hxd hvd
          gi_wp2_with (first | (refine wpListIn_mids (by rfl) 40 (.tmp 22) rfl b (off + k * 11) rfl p.cells _ RW.out HFP.out rfl (by rw [Pt.size]; exact infoPt) ?_) | (refine wpListIn_fill rfl 40 (.tmp 4) (.tmp 23) rfl rfl p.cells rfl 40 _ (by rw [Pt.size]; exact infoPt) (by rw [Pt.size]; rfl) (Pt.one p) ?_))
          intro V2 R2 b2
          have J2 := HJ.out _ _ _ none hr.out.1 (grown_below b2) (fun r e => by cases e)
          obtain ⟨fn3, tm3, as3, bo3, hy3, hR3⟩ := HY.out (xs.take (2 + 2 * k)) xa V2 J2 (by rw [List.length_take, HLX.out]; omega)
          rw [HVA.out] at hy3
          unfold rgV at hy3
          have RR : Hid _ := R2
          have K2 : Hid _ := hr.out.2.trans (KC.of_below b2)
          clear b2 R2 J2
          gi_wp2_with (first | (refine wpListIn_mids (by rfl) 25 (.tmp 25) rfl V.heap.size 1 rfl #[.int .u32 p.code.lo, .int .u32 p.code.hi, .bool p.code.x, .bool p.code.w] _ (pt_code RR.out) HFR.out rfl infoRg ?_))
          refine hR3.mono ?_
          rintro e V3 (⟨rfl, hJ3, hk3⟩ | ⟨rfl, hJx3⟩)
          · rw [← take_more HXA.out] at hJ3
            obtain ⟨fn4, tm4, as4, bo4, hy4, hR4⟩ := HY.out (xs.take (2 + 2 * k + 1)) xd V3 hJ3 (by rw [List.length_take, HLX.out]; omega)
            rw [HVD.out] at hy4
            unfold rgV at hy4
            have R3 : Hid _ := hk3.same _ _ _ _ RR.out
            have K3 : Hid _ := K2.out.trans hk3
            clear hy3 hR3 hJ3 hk3 RR K2
            gi_wp2_with (first | (refine wpListIn_mids (by rfl) 25 (.tmp 31) rfl V.heap.size 5 rfl #[.int .u32 p.data.lo, .int .u32 p.data.hi, .bool p.data.x, .bool p.data.w] _ (pt_data R3.out) HFR.out rfl infoRg ?_))
            refine hR4.mono ?_
            rintro e V4 (⟨rfl, hJ4, hk4⟩ | ⟨rfl, hJx4⟩)
            · have e4 : xs.take (2 + 2 * k + 1) ++ [xd] = xs.take (2 + 2 * (k + 1)) := by
                rw [show 2 + 2 * (k + 1) = 2 + 2 * k + 1 + 1 by omega, take_more (show xs[2 + 2 * k + 1]? = some xd by rw [show 2 + 2 * k + 1 = 3 + 2 * k by omega]; exact HXD.out)]
              rw [e4] at hJ4
              have J5 : Hid _ := And.intro hJ4 (K3.out.trans hk4)
              clear hy4 hR4 hJ4 hk4
              gi_wp2
              go_roundw
              case rel => exact ⟨k + 1, _, rfl, by omega, by go_num, J5.out⟩
              case measure => simp [intOf]; omega
            · have e4 : xs.take (2 + 2 * k + 1) ++ [xd] = xs.take (2 + 2 * k + 1 + 1) := by
                rw [take_more (show xs[2 + 2 * k + 1]? = some xd by rw [show 2 + 2 * k + 1 = 3 + 2 * k by omega]; exact HXD.out)]
              rw [e4] at hJx4
              have J5 : Hid _ := hJx4
              clear hy4 hR4 hJx4
              gi_wp2
              refine bodyPost_ret (results_none rfl _ _ _) rfl ?_
              exact ⟨⟨_, rfl⟩, .inr ⟨_, List.take_prefix _ _, J5.out⟩⟩
          · rw [← take_more HXA.out] at hJx3
            have J5 : Hid _ := hJx3
            clear hy3 hR3 hJx3
            gi_wp2
            refine ⟨fun _ h => (by cases h), ?_⟩
            gi_wp2
            refine bodyPost_ret (results_none rfl _ _ _) rfl ?_
            exact ⟨⟨_, rfl⟩, .inr ⟨_, List.take_prefix _ _, J5.out⟩⟩
        · have k1 : ¬ (k : Int) < (m : Int) := by omega
          have hJe := hr.out.1
          rw [List.take_of_length_le (by rw [HLX.out]; omega)] at hJe
          have J5 : Hid _ := hJe
          clear hJe
          gi_wp2
          go_end0
          exact ⟨⟨_, rfl⟩, .inl J5.out⟩
    · rw [T2.out] at hJx4
      have J5 : Hid _ := hJx4
      clear hy2 hR2 hJx4
      gi_wp2
      refine bodyPost_ret (results_none rfl _ _ _) rfl ?_
      exact ⟨⟨_, rfl⟩, .inr ⟨_, List.take_prefix _ _, J5.out⟩⟩
  · rw [T1.out] at hJx3
    have J5 : Hid _ := hJx3
    clear hy hR hJx3
    gi_wp2
    refine ⟨fun _ h => (by cases h), ?_⟩
    gi_wp2
    refine bodyPost_ret (results_none rfl _ _ _) rfl ?_
    exact ⟨⟨_, rfl⟩, .inr ⟨_, List.take_prefix _ _, J5.out⟩⟩
end Go.Proofs.Ytfjppgfnjjmkpaa
