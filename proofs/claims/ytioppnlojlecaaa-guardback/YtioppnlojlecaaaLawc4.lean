/-
  Regions that may be are told again by their words: the walk.
-/
import Derived.Test.YtioppnlojlecaaaLawb4
import Derived.Test.YtioppnlojlecaaaLawg4
namespace Go.Proofs.Ytioppnlojlecaaa
open Go.RowKit

structure BackSt (w : World) (zs : List Int) (k : Nat) (v : Value) (wr : World) : Prop where
  own : wr.ownsRow w.heap.size 40 4 v k (rrow (backP zs k))
  below : Below w.heap.size w wr

set_option maxRecDepth 100000 in
set_option maxHeartbeats 4000000 in
theorem guardBack_way (K : GuardK) {w : World} {sb : Option Addr} {c off' : Nat} (n cb : Nat) (zs : List Int) (hm : n ≤ maxLen) (hsb : 0 < n → sb = some ⟨c, off', none⟩ ∧ c < w.heap.size) (hc : ∀ i, i < n → w.cell? ⟨c, off' + i, none⟩ = some (.int .u32 (zs.getD i 0))) (hz : ∀ z ∈ zs, U32 z) :
    Calls Try.prog 4 #[.slice sb n cb] w fun e w' => e = .returned (.bool true) ∧ Below w.heap.size w w' := by
  have CW : Hid _ := gawake K
  have HK : Hid _ := K
  have HC : Hid _ := hc
  have HB : Hid _ := hsb
  have HZ : Hid _ := hz
  unfold maxLen at hm
  obtain ⟨i0, hi0, hz0, hz1, hz2⟩ := info_parts infoR
  clear K hc hsb hz
  go_enter Try.func4, Try.ntmps4
  go_wp2_with fail
  go_loopw [3, 4] (fun lv i wr => ∃ k m : Nat, k ≤ 8 ∧ m = 2 * k ∧ m ≤ n ∧ i = .int .i64 m ∧ Hid (BackSt w zs k lv wr)) (fun _ i _ => 16 - (intOf i).toNat)
  case atStart => exact ⟨0, 0, Nat.zero_le _, rfl, Nat.zero_le _, rfl, World.ownsRow_nil _ _ _ _, Below.refl _ _⟩
  case round =>
    obtain ⟨k, m, hk, hm2, hmn, rfl, hr⟩ := hrel
    have hlen : ∃ sl bl cl, u3 = .slice sl k cl ∧ Regs wr sl bl 0 (backP zs k) := own_any hr.out.own (by rw [backP_len])
    by_cases hlt : m + 1 < n ∧ k < 8
    · obtain ⟨h1, h2⟩ := hlt
      obtain ⟨esb, hcs⟩ := HB.out (by omega)
      subst esb
      have c0 : wr.cell? ⟨c, off' + m, none⟩ = some (.int .u32 (zs.getD m 0)) := (hr.out.below.cell (p := ⟨c, off' + m, none⟩) hcs).trans (HC.out m (by omega))
      have c1 : wr.cell? ⟨c, off' + (m + 1), none⟩ = some (.int .u32 (zs.getD (m + 1) 0)) := (hr.out.below.cell (p := ⟨c, off' + (m + 1), none⟩) hcs).trans (HC.out (m + 1) (by omega))
      obtain ⟨x0, x1⟩ := getD_u HZ.out m
      obtain ⟨y0, y1⟩ := getD_u HZ.out (m + 1)
      have HX : Hid _ := hr.out
      have HO : Hid (wr.ownsRow w.heap.size 40 4 u3 k (rrow (backP zs k))) := hr.out.own
      have HG : Hid (∀ b, u3.ownBlock = some b → w.heap.size ≤ b) := own_base hr.out.own
      have ag : u3.ownBlock ≠ some c := fun e => by have := HG.out _ e; omega
      have hws : w.heap.size ≤ wr.heap.size := hr.out.below.size
      have hcs2 : c < wr.heap.size := by omega
      have HM : Hid (m = 2 * k) := hm2
      clear hr hm2
      obtain ⟨sl, bl, cl, rfl, -⟩ := hlen
      generalize hx : zs.getD m 0 = x at *
      generalize hy : zs.getD (m + 1) 0 = y at *
      have t1 : x.tdiv 4 = x / 4 := Int.tdiv_eq_ediv_of_nonneg x0
      have t2 : y.tdiv 4 = y / 4 := Int.tdiv_eq_ediv_of_nonneg y0
      have t3 : y.tmod 2 = y % 2 := Int.tmod_eq_emod_of_nonneg y0
      have t4 : x.tmod 2 = x % 2 := Int.tmod_eq_emod_of_nonneg x0
      have i1 : (0 : Int) ≤ (m : Int) := by omega
      have i2 : (m : Int) < (n : Int) := by omega
      have i3 : (m : Int) + 1 < (n : Int) := by omega
      have i4 : (0 : Int) ≤ (m : Int) + 1 := by omega
      have i5 : (k : Int) < 8 := by omega
      have v1 : IntKind.i64.wrap ((m : Int) + 1) = (m : Int) + 1 := by rw [IntKind.wrap_i64]; omega
      have v2 : ((m : Int) + 1).toNat = m + 1 := by omega
      have v3 : IntKind.u32.wrap (x / 4 * 4) = x / 4 * 4 := by rw [IntKind.wrap_u32']; omega
      have v4 : IntKind.u32.wrap (y / 4 * 4) = y / 4 * 4 := by rw [IntKind.wrap_u32']; omega
      have v5 : IntKind.u32.wrap (x / 4) = x / 4 := by rw [IntKind.wrap_u32']; omega
      have v6 : IntKind.u32.wrap (y / 4) = y / 4 := by rw [IntKind.wrap_u32']; omega
      go_wp2_with fail
      go_region_held3 (fun w' => w'.cell? ⟨c, off' + m, none⟩ = some (.int .u32 x) ∧ w'.cell? ⟨c, off' + (m + 1), none⟩ = some (.int .u32 y))
        (first
          | go_keep
          | (go_split_ands
             refine ⟨?_, ?_⟩
             · (rw [hgrow.cell_far _ (by simp; omega) (Ne.symm ag)]; assumption)
             · (rw [hgrow.cell_far _ (by simp; omega) (Ne.symm ag)]; assumption)))
        ((refine step_append_lies _ (by rfl) _ _ _ (by rfl) w.heap.size 40 i0 _ 4 12 Try.underlying23 hi0 hz0 hz1 hz2 rfl (by omega) (.slice sl k cl) k (rrow (backP zs k)) (by rfl) (World.ownsRow.drew (World.ownsRow.alloc HO.out _))
            ⟨wr.heap.size, 0, none⟩ 1 1 (rcells (backV x y)) (by rfl) (by rfl) (World.news_of_block (cs := (rcells (backV x y)).toArray) (t := 40) (fr := (0, 0)) (heap_alloc_new wr _)) (by simp [rcells, Value.oneCell'])
            (by omega) (by unfold maxLen; omega) (by omega) (by simp; omega) (wr.heap.size + 1) (by simp) ?_; intro gg cap w1 hown1 hgrow hat hlt))
      have HF : Hid (BackSt w zs (k + 1) (.slice (some ⟨gg, 0, none⟩) (k + 1) cap) w1) := by
        refine ⟨?_, ?_⟩
        · rw [backP_next, rrow_append, ← HM.out, hx, hy]
          exact hown1
        · exact ((HX.out.below.alloc hws _).drew).grown hgrow (by simp; omega) (fun b hb => HG.out b hb)
      clear hgrow hown1 hat HX HO HG ag
      go_wp2_with fail
      exact ⟨⟨k + 1, m + 2, by omega, by have := HM.out; omega, by omega, by go_num, HF.out⟩, by have := HM.out; simp [intOf]; omega⟩
    · have HBR : Hid _ := hr.out.below
      have UB : Hid _ := backP_u HZ.out k
      have PU : Hid (∀ i, U32 (putW (backP zs k) i)) := fun i => putW_u (backP_u HZ.out k) i
      have OP : Hid (∀ i, i < 8 → rgAt (ofV (putW (backP zs k))) i = if i < k then rgAt (backP zs k) i else zeroR) := fun i hi => by
        have h := of_put (l := backP zs k) (by rw [backP_len]; exact hk) (fun j hj => by
          have : rgAt (backP zs k) j ∈ backP zs k := by
            unfold rgAt
            rw [List.getD_eq_getElem?_getD, List.getElem?_eq_getElem hj]
            exact List.getElem_mem _
          obtain ⟨q, e⟩ := backP_mem this
          rw [e]
          exact backV_good _ _) i hi
        rwa [backP_len] at h
      obtain ⟨sl, bl, cl, rfl, hRB⟩ := hlen
      have RB : Hid _ := hRB
      clear hr hRB HB HC
      by_cases h1 : m + 1 < n
      · have h2 : ¬ k < 8 := by omega
        go_wp2_with fail
        refine (HK.out.put RB.out UB.out k cl (by rw [backP_len]) (by omega)).mono ?_
        rintro e w2 ⟨rfl, b2⟩
        rw [putE_back zs hk]
        have RB2 : Hid _ := RB.out.below b2
        have B2 : Hid _ := below_step HBR.out b2
        clear b2
        go_wp2_with (first | (refine wpList_store_row rfl 26 (.tmp 5) (.tmp 58) rfl _ (row16 _) rfl rfl _ (row16 fun _ => 0) (alloc_at w2 _) (by rw [row16_size]; exact info16) (by rw [row16_size, row16_size]) (by simp [row16, Value.oneCell']) ?_) | (refine wpList_load_row rfl 26 (.tmp 5) rfl _ rfl _ _ _ _ (setRow_heap _ _ _ _ _ _ (alloc_at w2 (.cells (row16 fun _ => 0) 26))) und16 rfl (by rw [row16_size]; exact info16) ?_))
        rw [zero16]
        have b3 : Below w2.heap.size w2 ((w2.alloc (.cells (row16 fun _ => 0) 26)).setRow w2.heap.size (row16 (putW (backP zs k)))) := below_setRow ((Below.refl _ _).alloc (Nat.le_refl _) _) (Nat.le_refl _) _
        have RB3 : Hid _ := RB2.out.below b3
        have B3 : Hid _ := below_step B2.out b3
        clear b3
        generalize (w2.alloc (.cells (row16 fun _ => 0) 26)).setRow w2.heap.size (row16 (putW (backP zs k))) = w3 at *
        refine (HK.out.of _ PU.out w3).mono ?_
        rintro e w4 ⟨g, o, cp, rfl, -, -, hcp, RM, b4⟩
        have RM4 : Hid _ := RM
        have RB4 : Hid _ := RB3.out.below b4
        have B4 : Hid _ := below_step B3.out b4
        have hkc : (k : Int) ≤ (cp : Int) := by omega
        have RK4 : Hid (Regs w4 (some ⟨g, o, none⟩) g o (backP zs k)) := by
          refine ⟨fun _ => rfl, fun _ => RM4.out.there (by simp [ofV]), fun i hi f v hv => ?_⟩
          rw [backP_len] at hi
          refine RM4.out.cell i (by simp [ofV]; omega) f v ?_
          rw [OP.out i (by omega), if_pos hi]
          exact hv
        clear RM b4 RB2 RB3 B2 B3
        go_wp2_with (first | (go_at_call 14; refine (gErr _ _).mono ?_; rintro e w' ⟨rfl, rfl⟩))
        refine (lsame RK4.out RB4.out k cp cl (by rw [backP_len]) (by omega)).mono ?_
        rintro e w5 ⟨rfl, b5⟩
        have RM5 : Hid _ := RM4.out.below b5
        have B5 : Hid _ := below_step B4.out b5
        clear b5 RK4 RB4 RM4 B4
        go_wp2_with fail
        go_loopw [8] (fun i wr => ∃ j : Nat, k ≤ j ∧ j ≤ 8 ∧ i = .int .i64 j ∧ Hid (Regs wr (some ⟨g, o, none⟩) g o (ofV (putW (backP zs k))) ∧ Below w.heap.size w wr)) (fun i _ => 8 - (intOf i).toNat)
        case atStart => exact ⟨k, Nat.le_refl _, hk, rfl, RM5.out, B5.out⟩
        case round =>
          clear RM5 B5
          obtain ⟨j, hkj, hj8, rfl, hI⟩ := hrel
          by_cases hlt : j < 8
          · have hz : rgAt (ofV (putW (backP zs k))) j = zeroR := by rw [OP.out j hlt, if_neg (by omega)]
            have hl8 : j < (ofV (putW (backP zs k))).length := by simp [ofV]; omega
            have q0 : wr.cell? ⟨g, o + j * 4, none⟩ = some (.int .u32 0) := hI.out.1.cell j hl8 0 _ (by rw [hz]; rfl)
            have q1 : wr.cell? ⟨g, o + j * 4 + 1, none⟩ = some (.int .u32 0) := hI.out.1.cell j hl8 1 _ (by rw [hz]; rfl)
            have q2 : wr.cell? ⟨g, o + j * 4 + 2, none⟩ = some (.bool false) := hI.out.1.cell j hl8 2 _ (by rw [hz]; rfl)
            have q3 : wr.cell? ⟨g, o + j * 4 + 3, none⟩ = some (.bool false) := hI.out.1.cell j hl8 3 _ (by rw [hz]; rfl)
            go_wp2_with fail
            all_goals exact ⟨⟨j + 1, by omega, hlt, by go_num, hI.out⟩, by simp [intOf]; omega⟩
          · have hj : j = 8 := by omega
            subst hj
            have RM6 : Hid _ := hI.out.1
            have B6 : Hid _ := hI.out.2
            have L8 : Hid (8 = (ofV (putW (backP zs k))).length) := by show 8 = _; simp [ofV]
            have UM : Hid (∀ r ∈ ofV (putW (backP zs k)), RgU r) := ofV_u PU.out
            have P9 : Hid (putE (ofV (putW (backP zs k)) ++ [zeroR]) = 9) := by
              show _ = _
              unfold putE
              rw [if_pos (by simp [ofV])]
            clear hI OP PU
            generalize ofV (putW (backP zs k)) = M at *
            go_wp2_with (first | (refine wpList_append_regs rfl (.tmp 92) (.tmp 93) rfl _ _ _ _ rfl (own_none wr) (by simp) (Regs.below RM6.out ((Below.refl _ _).alloc (Nat.le_refl _) _)) _ _ rfl L8.out (by omega) ?_; intro v1 w6 hown hgrow; have C6 : Below wr.heap.size wr w6 := below_grown ((Below.refl _ _).alloc (Nat.le_refl _) _) hgrow (by simp) (Nat.le_refl _); clear hgrow) | (refine wpList_append_regs rfl (.tmp 94) (.tmp 96) rfl wr.heap.size _ _ _ rfl (World.ownsRow.alloc hown _) (by simp; have := C6.size; omega) (regs_new w6 [zeroR] _) _ _ rfl rfl (by omega) ?_; intro v2 w7 hown2 hgrow; have C7 : Below wr.heap.size wr w7 := (C6.alloc C6.size _).grown hgrow (by simp; have := C6.size; omega) (own_base hown); have hR7 := own_any (l := M ++ [zeroR]) (by rw [rrow_append]; exact hown2) (by rw [List.length_append, ← L8.out]; rfl); obtain ⟨sc, bc, cc, rfl, R7⟩ := hR7; clear hgrow hown hown2 C6))
            refine (HK.out.put R7 (rgU_app UM.out (rgU_one zeroR_u)) 9 cc (by rw [List.length_append, ← L8.out]; rfl) (by decide)).mono ?_
            rintro e w8 ⟨rfl, b8⟩
            rw [P9.out]
            have B8 : Hid _ := below_step (below_step B6.out C7) b8
            clear b8 C7 R7 B6 P9
            generalize putW (M ++ [zeroR]) = F at *
            go_wp2_with (first | (refine wpList_store_row rfl 26 (.tmp 9) (.tmp 99) rfl _ (row16 _) rfl rfl _ (row16 fun _ => 0) (alloc_at w8 _) (by rw [row16_size]; exact info16) (by rw [row16_size, row16_size]) (by simp [row16, Value.oneCell']) ?_))
            rw [zero16]
            have b9 : Below w8.heap.size w8 ((w8.alloc (.cells (row16 fun _ => 0) 26)).setRow w8.heap.size (row16 F)) := below_setRow ((Below.refl _ _).alloc (Nat.le_refl _) _) (Nat.le_refl _) _
            have B9 : Hid _ := below_step B8.out b9
            have hsz : ((w8.alloc (.cells (row16 fun _ => 0) 26)).setRow w8.heap.size (row16 F)).heap.size = w8.heap.size + 1 := by rw [setRow_size, World.size_alloc]
            generalize (w8.alloc (.cells (row16 fun _ => 0) 26)).setRow w8.heap.size (row16 F) = w9 at *
            clear b9 B8
            rw [← hsz]
            clear hsz
            refine (HK.out.put (regs_new w9 [zeroR, ⟨2, 0, false, false⟩] _) (rgU_two zeroR_u ⟨⟨by decide, by decide⟩, ⟨by decide, by decide⟩⟩) 2 2 rfl (by decide)).mono ?_
            rintro e wa ⟨rfl, ba⟩
            rw [show putE [zeroR, ⟨2, 0, false, false⟩] = 4 by decide]
            have BA : Hid _ := below_step B9.out (below_first ba)
            clear ba B9
            generalize putW [zeroR, ⟨2, 0, false, false⟩] = G at *
            go_wp2_with (first | (go_at_call 14; refine (gErr _ _).mono ?_; rintro e w' ⟨rfl, rfl⟩) | (refine wpList_store_row rfl 26 (.tmp 11) (.tmp 106) rfl _ (row16 _) rfl rfl _ (row16 fun _ => 0) (alloc_at wa _) (by rw [row16_size]; exact info16) (by rw [row16_size, row16_size]) (by simp [row16, Value.oneCell']) ?_))
            have BB : Hid _ := below_step BA.out (below_setRow ((Below.refl _ wa).alloc (Nat.le_refl _) (.cells (row16 fun _ => 0) 26)) (Nat.le_refl _) (row16 G))
            refine (CW.out _).mono ?_
            rintro e wc ⟨rfl, bc⟩
            have BC := below_step BB.out bc
            go_wp2
            go_ret
            exact ⟨rfl, BC⟩
      · have h2 : (k : Int) ≤ 8 := by omega
        go_wp2_with fail
        refine (HK.out.put RB.out UB.out k cl (by rw [backP_len]) (by omega)).mono ?_
        rintro e w2 ⟨rfl, b2⟩
        rw [putE_back zs hk]
        have RB2 : Hid _ := RB.out.below b2
        have B2 : Hid _ := below_step HBR.out b2
        clear b2
        go_wp2_with (first | (refine wpList_store_row rfl 26 (.tmp 5) (.tmp 58) rfl _ (row16 _) rfl rfl _ (row16 fun _ => 0) (alloc_at w2 _) (by rw [row16_size]; exact info16) (by rw [row16_size, row16_size]) (by simp [row16, Value.oneCell']) ?_) | (refine wpList_load_row rfl 26 (.tmp 5) rfl _ rfl _ _ _ _ (setRow_heap _ _ _ _ _ _ (alloc_at w2 (.cells (row16 fun _ => 0) 26))) und16 rfl (by rw [row16_size]; exact info16) ?_))
        rw [zero16]
        have b3 : Below w2.heap.size w2 ((w2.alloc (.cells (row16 fun _ => 0) 26)).setRow w2.heap.size (row16 (putW (backP zs k)))) := below_setRow ((Below.refl _ _).alloc (Nat.le_refl _) _) (Nat.le_refl _) _
        have RB3 : Hid _ := RB2.out.below b3
        have B3 : Hid _ := below_step B2.out b3
        clear b3
        generalize (w2.alloc (.cells (row16 fun _ => 0) 26)).setRow w2.heap.size (row16 (putW (backP zs k))) = w3 at *
        refine (HK.out.of _ PU.out w3).mono ?_
        rintro e w4 ⟨g, o, cp, rfl, -, -, hcp, RM, b4⟩
        have RM4 : Hid _ := RM
        have RB4 : Hid _ := RB3.out.below b4
        have B4 : Hid _ := below_step B3.out b4
        have hkc : (k : Int) ≤ (cp : Int) := by omega
        have RK4 : Hid (Regs w4 (some ⟨g, o, none⟩) g o (backP zs k)) := by
          refine ⟨fun _ => rfl, fun _ => RM4.out.there (by simp [ofV]), fun i hi f v hv => ?_⟩
          rw [backP_len] at hi
          refine RM4.out.cell i (by simp [ofV]; omega) f v ?_
          rw [OP.out i (by omega), if_pos hi]
          exact hv
        clear RM b4 RB2 RB3 B2 B3
        go_wp2_with (first | (go_at_call 14; refine (gErr _ _).mono ?_; rintro e w' ⟨rfl, rfl⟩))
        refine (lsame RK4.out RB4.out k cp cl (by rw [backP_len]) (by omega)).mono ?_
        rintro e w5 ⟨rfl, b5⟩
        have RM5 : Hid _ := RM4.out.below b5
        have B5 : Hid _ := below_step B4.out b5
        clear b5 RK4 RB4 RM4 B4
        go_wp2_with fail
        go_loopw [8] (fun i wr => ∃ j : Nat, k ≤ j ∧ j ≤ 8 ∧ i = .int .i64 j ∧ Hid (Regs wr (some ⟨g, o, none⟩) g o (ofV (putW (backP zs k))) ∧ Below w.heap.size w wr)) (fun i _ => 8 - (intOf i).toNat)
        case atStart => exact ⟨k, Nat.le_refl _, hk, rfl, RM5.out, B5.out⟩
        case round =>
          clear RM5 B5
          obtain ⟨j, hkj, hj8, rfl, hI⟩ := hrel
          by_cases hlt : j < 8
          · have hz : rgAt (ofV (putW (backP zs k))) j = zeroR := by rw [OP.out j hlt, if_neg (by omega)]
            have hl8 : j < (ofV (putW (backP zs k))).length := by simp [ofV]; omega
            have q0 : wr.cell? ⟨g, o + j * 4, none⟩ = some (.int .u32 0) := hI.out.1.cell j hl8 0 _ (by rw [hz]; rfl)
            have q1 : wr.cell? ⟨g, o + j * 4 + 1, none⟩ = some (.int .u32 0) := hI.out.1.cell j hl8 1 _ (by rw [hz]; rfl)
            have q2 : wr.cell? ⟨g, o + j * 4 + 2, none⟩ = some (.bool false) := hI.out.1.cell j hl8 2 _ (by rw [hz]; rfl)
            have q3 : wr.cell? ⟨g, o + j * 4 + 3, none⟩ = some (.bool false) := hI.out.1.cell j hl8 3 _ (by rw [hz]; rfl)
            go_wp2_with fail
            all_goals exact ⟨⟨j + 1, by omega, hlt, by go_num, hI.out⟩, by simp [intOf]; omega⟩
          · have hj : j = 8 := by omega
            subst hj
            have RM6 : Hid _ := hI.out.1
            have B6 : Hid _ := hI.out.2
            have L8 : Hid (8 = (ofV (putW (backP zs k))).length) := by show 8 = _; simp [ofV]
            have UM : Hid (∀ r ∈ ofV (putW (backP zs k)), RgU r) := ofV_u PU.out
            have P9 : Hid (putE (ofV (putW (backP zs k)) ++ [zeroR]) = 9) := by
              show _ = _
              unfold putE
              rw [if_pos (by simp [ofV])]
            clear hI OP PU
            generalize ofV (putW (backP zs k)) = M at *
            go_wp2_with (first | (refine wpList_append_regs rfl (.tmp 92) (.tmp 93) rfl _ _ _ _ rfl (own_none wr) (by simp) (Regs.below RM6.out ((Below.refl _ _).alloc (Nat.le_refl _) _)) _ _ rfl L8.out (by omega) ?_; intro v1 w6 hown hgrow; have C6 : Below wr.heap.size wr w6 := below_grown ((Below.refl _ _).alloc (Nat.le_refl _) _) hgrow (by simp) (Nat.le_refl _); clear hgrow) | (refine wpList_append_regs rfl (.tmp 94) (.tmp 96) rfl wr.heap.size _ _ _ rfl (World.ownsRow.alloc hown _) (by simp; have := C6.size; omega) (regs_new w6 [zeroR] _) _ _ rfl rfl (by omega) ?_; intro v2 w7 hown2 hgrow; have C7 : Below wr.heap.size wr w7 := (C6.alloc C6.size _).grown hgrow (by simp; have := C6.size; omega) (own_base hown); have hR7 := own_any (l := M ++ [zeroR]) (by rw [rrow_append]; exact hown2) (by rw [List.length_append, ← L8.out]; rfl); obtain ⟨sc, bc, cc, rfl, R7⟩ := hR7; clear hgrow hown hown2 C6))
            refine (HK.out.put R7 (rgU_app UM.out (rgU_one zeroR_u)) 9 cc (by rw [List.length_append, ← L8.out]; rfl) (by decide)).mono ?_
            rintro e w8 ⟨rfl, b8⟩
            rw [P9.out]
            have B8 : Hid _ := below_step (below_step B6.out C7) b8
            clear b8 C7 R7 B6 P9
            generalize putW (M ++ [zeroR]) = F at *
            go_wp2_with (first | (refine wpList_store_row rfl 26 (.tmp 9) (.tmp 99) rfl _ (row16 _) rfl rfl _ (row16 fun _ => 0) (alloc_at w8 _) (by rw [row16_size]; exact info16) (by rw [row16_size, row16_size]) (by simp [row16, Value.oneCell']) ?_))
            rw [zero16]
            have b9 : Below w8.heap.size w8 ((w8.alloc (.cells (row16 fun _ => 0) 26)).setRow w8.heap.size (row16 F)) := below_setRow ((Below.refl _ _).alloc (Nat.le_refl _) _) (Nat.le_refl _) _
            have B9 : Hid _ := below_step B8.out b9
            have hsz : ((w8.alloc (.cells (row16 fun _ => 0) 26)).setRow w8.heap.size (row16 F)).heap.size = w8.heap.size + 1 := by rw [setRow_size, World.size_alloc]
            generalize (w8.alloc (.cells (row16 fun _ => 0) 26)).setRow w8.heap.size (row16 F) = w9 at *
            clear b9 B8
            rw [← hsz]
            clear hsz
            refine (HK.out.put (regs_new w9 [zeroR, ⟨2, 0, false, false⟩] _) (rgU_two zeroR_u ⟨⟨by decide, by decide⟩, ⟨by decide, by decide⟩⟩) 2 2 rfl (by decide)).mono ?_
            rintro e wa ⟨rfl, ba⟩
            rw [show putE [zeroR, ⟨2, 0, false, false⟩] = 4 by decide]
            have BA : Hid _ := below_step B9.out (below_first ba)
            clear ba B9
            generalize putW [zeroR, ⟨2, 0, false, false⟩] = G at *
            go_wp2_with (first | (go_at_call 14; refine (gErr _ _).mono ?_; rintro e w' ⟨rfl, rfl⟩) | (refine wpList_store_row rfl 26 (.tmp 11) (.tmp 106) rfl _ (row16 _) rfl rfl _ (row16 fun _ => 0) (alloc_at wa _) (by rw [row16_size]; exact info16) (by rw [row16_size, row16_size]) (by simp [row16, Value.oneCell']) ?_))
            have BB : Hid _ := below_step BA.out (below_setRow ((Below.refl _ wa).alloc (Nat.le_refl _) (.cells (row16 fun _ => 0) 26)) (Nat.le_refl _) (row16 G))
            refine (CW.out _).mono ?_
            rintro e wc ⟨rfl, bc⟩
            have BC := below_step BB.out bc
            go_wp2
            go_ret
            exact ⟨rfl, BC⟩

/-- In the form in which the frame opens a slice of words that came in. -/
theorem guardBack (K : GuardK) (a : Option Addr) (n cap : Nat) (zs : List Int) (w : World)
    (hz : (a = none ∧ n = 0 ∧ cap = 0 ∧ zs = []) ∨ ∃ q, a = some q ∧ n ≤ cap ∧ cap ≤ maxLen ∧ zs.length = cap ∧ (∀ i, i < zs.length → w.cell? (q.add i) = some (.int .u32 (zs.getD i 0))) ∧ ∀ z ∈ zs, (Lit.int .u32 z).wf = true) :
    Calls Try.prog 4 #[.slice a n cap] w fun e w' => e = .returned (.bool true) ∧ Below w.heap.size w w' := by
  rcases hz with ⟨rfl, rfl, rfl, rfl⟩ | ⟨q, rfl, hl, hmc, hzl, hcell, hwz⟩
  · exact guardBack_way (c := 0) (off' := 0) K 0 0 [] (Nat.zero_le _) (fun h => absurd h (by omega)) (fun i hi => absurd hi (by omega)) (fun z hzz => by cases hzz)
  · have hU : ∀ z ∈ zs, U32 z := fun z hzz => u32_of (bounds_u32 (hwz z hzz))
    by_cases hn : n = 0
    · subst hn
      exact guardBack_way (c := 0) (off' := 0) K 0 cap zs (Nat.zero_le _) (fun h => absurd h (by omega)) (fun i hi => absurd hi (by omega)) hU
    · obtain ⟨c, off', spot⟩ := q
      have hc := hcell 0 (by omega)
      have hspot : spot = none := by simpa [Addr.add] using World.cell?_spot hc
      subst hspot
      have hb : c < w.heap.size := by simpa [Addr.add] using World.block_lt_of_cell? _ _ hc
      exact guardBack_way (c := c) (off' := off') K n cap zs (by omega) (fun _ => ⟨rfl, hb⟩) (fun i hi => by have := hcell i (by omega); rwa [add_none] at this) hU
end Go.Proofs.Ytioppnlojlecaaa
