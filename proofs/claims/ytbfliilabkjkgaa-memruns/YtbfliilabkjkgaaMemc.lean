/-
  What package mem's own functions make of a memory: a contract each, and that they are what the statements need.
-/
import Derived.Test.YtbfliilabkjkgaaMemg
import Derived.Laws.OwnMore
import Derived.OwnWalk
namespace Go.Proofs.Ytbfliilabkjkgaa
open Go.RowKit

theorem Lies.raw {w : World} {m b cap : Nat} {l : List Int} (h : Lies w m b cap l) : Raw w m b cap (4 * l.length) (byteAt l) := ⟨h.room, h.two, h.here, h.byte, h.free⟩
theorem Raw.lies {w : World} {m b cap n : Nat} {f : Nat → Int} {l : List Int} (h : Raw w m b cap n f) (hn : n = 4 * l.length) (h1 : 1 ≤ l.length ∧ l.length ≤ 65536) (hu : ∀ z ∈ l, U32 z) (hf : ∀ j, j < n → f j = byteAt l j) : Lies w m b cap l := by
  subst hn
  exact ⟨h1, h.room, hu, h.two, h.here, fun j hj => by rw [← hf j hj]; exact h.byte j hj, h.free⟩
theorem Lies.keep {w w' : World} {m b cap : Nat} {l : List Int} (h : Lies w m b cap l) (hm : w'.heap[m]? = w.heap[m]?) (hb : w'.heap[b]? = w.heap[b]?) : Lies w' m b cap l :=
  ⟨h.len, h.room, h.u32, h.two, (World.cell?_of_block (a := ⟨m, 0, none⟩) hm).trans h.here, fun j hj => (World.cell?_of_block (a := ⟨b, j, none⟩) hb).trans (h.byte j hj), fun j => (World.frozen?_of_block (a := ⟨b, j, none⟩) hb).trans (h.free j)⟩
theorem Lies.there {w : World} {m b cap : Nat} {l : List Int} (h : Lies w m b cap l) : m < w.heap.size ∧ b < w.heap.size :=
  ⟨World.block_lt_of_cell? _ _ h.here, World.block_lt_of_cell? _ _ (h.byte 0 (by have := h.len; omega))⟩

/-- The bytes behind a store are those ahead of it, but for those that are stored. -/
theorem byteAt_store (l : List Int) (p k : Nat) (x : Int) (hu : ∀ z ∈ l, U32 z) (hx : U32 x) (hk : k = 1 ∨ k = 2 ∨ k = 4) (hp : p % k = 0) (hl : p < 4 * l.length) (j : Nat) :
    upd (byteAt l) p k x j = byteAt (l.set (p / 4) (storeV (wordAt l (p / 4)) (p : Int) (k : Int) x)) j := by
  have hq : p % 4 + k ≤ 4 := by rcases hk with rfl | rfl | rfl <;> omega
  have hi : p / 4 < l.length := by omega
  have ho := wordAt_in hu (p / 4)
  unfold upd byteAt
  by_cases hj : j / 4 = p / 4
  · have e : wordAt (l.set (p / 4) (storeV (wordAt l (p / 4)) (p : Int) (k : Int) x)) (j / 4) = storeV (wordAt l (p / 4)) (p : Int) (k : Int) x := by
      unfold wordAt
      rw [hj, List.getD_eq_getElem?_getD, List.getElem?_set_self hi]
      rfl
    have hm : ((p : Int) % 4).toNat = p % 4 := by omega
    rw [e, byte_store _ _ _ k (j % 4) ho hx (by omega) (by rw [hm]; exact hq) (by omega), hm, hj]
    by_cases hh : p ≤ j ∧ j < p + k
    · rw [if_pos hh, if_pos (by omega), show j - p = j % 4 - p % 4 by omega]
    · rw [if_neg hh, if_neg (by omega)]
  · have e : wordAt (l.set (p / 4) (storeV (wordAt l (p / 4)) (p : Int) (k : Int) x)) (j / 4) = wordAt l (j / 4) := by
      generalize storeV (wordAt l (p / 4)) (p : Int) (k : Int) x = v
      unfold wordAt
      rw [List.getD_eq_getElem?_getD, List.getD_eq_getElem?_getD, List.getElem?_set_ne (Ne.symm hj)]
    rw [e, if_neg (by omega)]

set_option maxHeartbeats 1000000 in
theorem mcheck {w : World} {m b cap : Nat} {l : List Int} (h : Lies w m b cap l) (p k : Int) (hp : U32 p) :
    Calls Try.prog 19 #[.pointer (some ⟨m, 0, none⟩), .int .u32 p, .int .i64 k] w fun e w' => e = .returned (.int .i64 (askV l.length p k)) ∧ w' = w := by
  have hh := h.here
  have hn := h.len.2
  clear h
  generalize l.length = n at *
  obtain ⟨p0, p1⟩ := hp
  by_cases hs : k = 1 ∨ k = 2 ∨ k = 4
  · have hz : sizeV k = true := (sizeV_iff k).2 hs
    have e : askV n p k = if p % k ≠ 0 then 4 else if 4 * (n : Int) ≤ p then 2 else 0 := by unfold askV; rw [if_neg (by rw [hz]; decide)]
    rw [e]
    clear e hz
    have HT : p.tmod k = p % k := by rw [Int.tmod_eq_emod_of_nonneg p0]
    by_cases hm : p % k = 0
    · have b1 : p.tmod k = 0 := by rw [HT]; exact hm
      have b2 : (p.tmod k != 0) = false := by simp [b1]
      by_cases hl : 4 * (n : Int) ≤ p
      · rw [if_neg (by omega), if_pos hl]
        rcases hs with rfl | rfl | rfl
        all_goals
          clear HT hm
          go_enter Try.func19, Try.ntmps19
          go_wp2
          go_ret
          exact ⟨rfl, rfl⟩
      · rw [if_neg (by omega), if_neg hl]
        rcases hs with rfl | rfl | rfl
        all_goals
          clear HT hm
          go_enter Try.func19, Try.ntmps19
          go_wp2
          go_ret
          exact ⟨rfl, rfl⟩
    · have b1 : ¬ p.tmod k = 0 := by rw [HT]; exact hm
      have b2 : (p.tmod k != 0) = true := by simpa using b1
      rw [if_pos hm]
      have b3 : (p % k != 0) = true := by simpa using hm
      rcases hs with rfl | rfl | rfl
      · omega
      all_goals
        clear HT hm
        go_enter Try.func19, Try.ntmps19
        go_wp2
        go_ret
        exact ⟨rfl, rfl⟩
  · have hz : sizeV k = false := by cases hz : sizeV k with | true => exact absurd ((sizeV_iff k).1 hz) hs | false => rfl
    have e : askV n p k = 1 := by unfold askV; rw [if_pos hz]
    rw [e]
    clear e hz
    have b1 : (k != 1) = true := by simp; omega
    have b2 : (k != 2) = true := by simp; omega
    have b4 : (k != 4) = true := by simp; omega
    clear hs
    go_enter Try.func19, Try.ntmps19
    go_wp2
    go_ret
    exact ⟨rfl, rfl⟩

theorem mcheck0 (p k : Int) (w : World) :
    Calls Try.prog 19 #[.pointer none, .int .u32 p, .int .i64 k] w fun e w' => e = .returned (.int .i64 2) ∧ w' = w := by
  go_enter Try.func19, Try.ntmps19
  go_wp2
  go_ret
  exact ⟨rfl, rfl⟩

set_option maxHeartbeats 400000 in
theorem msext (x n : Int) (hx : U32 x) (w : World) :
    Calls Try.prog 23 #[.int .u32 x, .int .i64 n] w fun e w' => e = .returned (.int .u32 (sextV x n)) ∧ w' = w := by
  obtain ⟨h0, h1⟩ := hx
  by_cases c1 : n < 1
  · go_enter Try.func23, Try.ntmps23
    go_wp2
    go_ret
    exact ⟨ret_u32 (by unfold sextV; rw [if_pos (Or.inl c1)]), rfl⟩
  · by_cases c2 : 32 < n
    · go_enter Try.func23, Try.ntmps23
      go_wp2
      go_ret
      exact ⟨ret_u32 (by unfold sextV; rw [if_pos (Or.inr c2)]), rfl⟩
    · go_enter Try.func23, Try.ntmps23
      go_wp2
      go_ret
      exact ⟨ret_u32 (by unfold sextV; rw [if_neg (by omega)]), rfl⟩

theorem msize {w : World} {m b cap : Nat} {l : List Int} (h : Lies w m b cap l) :
    Calls Try.prog 17 #[.pointer (some ⟨m, 0, none⟩)] w fun e w' => e = .returned (.int .u32 (4 * l.length)) ∧ w' = w := by
  have hh := h.here
  have hn := h.len.2
  clear h
  generalize l.length = n at *
  go_enter Try.func17, Try.ntmps17
  go_wp2
  go_ret
  exact ⟨rfl, rfl⟩
theorem msize0 (w : World) :
    Calls Try.prog 17 #[.pointer none] w fun e w' => e = .returned (.int .u32 0) ∧ w' = w := by
  go_enter Try.func17, Try.ntmps17
  go_wp2
  go_ret
  exact ⟨rfl, rfl⟩

theorem mload0 (p k : Int) (s : Bool) (w : World) :
    Calls Try.prog 13 #[.pointer none, .int .u32 p, .int .i64 k, .bool s] w fun e w' => e = .returned (.tuple #[.int .u32 0, .int .i64 2]) ∧ w' = w := by
  have CC : Hid _ := mcheck0 p k
  go_enter Try.func13, Try.ntmps13
  go_wp2_with fail
  refine (CC.out _).mono ?_
  rintro e w' ⟨rfl, rfl⟩
  go_wp2
  go_ret2
  exact ⟨rfl, rfl⟩
theorem mstore0 (p k x : Int) (w : World) :
    Calls Try.prog 11 #[.pointer none, .int .u32 p, .int .i64 k, .int .u32 x] w fun e w' => e = .returned (.int .i64 2) ∧ w' = w := by
  have CC : Hid _ := mcheck0 p k
  go_enter Try.func11, Try.ntmps11
  go_wp2_with fail
  refine (CC.out _).mono ?_
  rintro e w' ⟨rfl, rfl⟩
  go_wp2
  go_ret
  exact ⟨rfl, rfl⟩
theorem mwords0 (w : World) :
    Calls Try.prog 16 #[.pointer none] w fun e w' => e = .returned (.slice none 0 0) ∧ w' = w := by
  go_enter Try.func16, Try.ntmps16
  go_wp2
  go_ret
  exact ⟨rfl, rfl⟩

theorem mload {w : World} {m b cap : Nat} {l : List Int} (h : Lies w m b cap l) (p k : Int) (s : Bool) (hp : U32 p) :
    Calls Try.prog 13 #[.pointer (some ⟨m, 0, none⟩), .int .u32 p, .int .i64 k, .bool s] w fun e w' => e = .returned (.tuple #[.int .u32 (loadN l.length l p k s), .int .i64 (askV l.length p k)]) ∧ w' = w := by
  have CC : Hid _ := mcheck h p k hp
  by_cases h0 : askV l.length p k = 0
  · obtain ⟨h1, h2, h3⟩ := ask_zero h0
    obtain ⟨P, rfl⟩ := Int.eq_ofNat_of_zero_le hp.1
    obtain ⟨k', rfl⟩ := Int.eq_ofNat_of_zero_le (show 0 ≤ k by omega)
    have CG : Hid _ := mget h P k' (by omega) (by omega) (by omega)
    have e : loadN l.length l P k' s = if s then sextV (bitsV (wordAt l (P / 4)) ((P % 4 : Nat) * 8) (8 * k')) (8 * k') else bitsV (wordAt l (P / 4)) ((P % 4 : Nat) * 8) (8 * k') := by
      unfold loadN
      rw [if_pos h0]
      unfold loadV
      rw [show ((P : Int) / 4).toNat = P / 4 by omega, show (P : Int) % 4 = ((P % 4 : Nat) : Int) by omega]
    rw [e, h0]
    rw [h0] at CC
    clear e
    have CS : Hid _ := msext (bitsV (wordAt l (P / 4)) ((P % 4 : Nat) * 8) (8 * k')) (8 * k') (bitsV_u32 _ _ _)
    generalize sextV (bitsV (wordAt l (P / 4)) ((P % 4 : Nat) * 8) (8 * k')) (8 * k') = y2 at *
    generalize bitsV (wordAt l (P / 4)) ((P % 4 : Nat) * 8) (8 * k') = y1 at *
    have p1 := hp.2
    have k4 : k' ≤ 4 := by omega
    clear h h0 h2 h3 hp h1
    cases s with
    | false =>
      rw [if_neg (by decide)]
      go_enter Try.func13, Try.ntmps13
      go_wp2_with (first | (go_at_call 19; refine Calls.mono CC.out ?_; rintro e w' ⟨rfl, rfl⟩) | (go_at_call 22; refine Calls.mono CG.out ?_; rintro e w' ⟨rfl, rfl⟩))
      go_ret2
      exact ⟨rfl, rfl⟩
    | true =>
      rw [if_pos rfl]
      go_enter Try.func13, Try.ntmps13
      go_wp2_with (first | (go_at_call 19; refine Calls.mono CC.out ?_; rintro e w' ⟨rfl, rfl⟩) | (go_at_call 22; refine Calls.mono CG.out ?_; rintro e w' ⟨rfl, rfl⟩) | (go_at_call 23; refine (CS.out _).mono ?_; rintro e w' ⟨rfl, rfl⟩))
      go_ret2
      exact ⟨rfl, rfl⟩
  · have e : loadN l.length l p k s = 0 := by unfold loadN; rw [if_neg h0]
    rw [e]
    clear e h hp
    generalize askV l.length p k = E at *
    go_enter Try.func13, Try.ntmps13
    go_wp2_with fail
    refine Calls.mono CC.out ?_
    rintro e w' ⟨rfl, rfl⟩
    go_wp2
    go_ret2
    exact ⟨rfl, rfl⟩

theorem mstore {w : World} {m b cap : Nat} {l : List Int} (h : Lies w m b cap l) (p k x : Int) (hp : U32 p) (hx : U32 x) :
    Calls Try.prog 11 #[.pointer (some ⟨m, 0, none⟩), .int .u32 p, .int .i64 k, .int .u32 x] w fun e w' => e = .returned (.int .i64 (askV l.length p k)) ∧ Lies w' m b cap (storeL l p k x) ∧ Apart (· = b) w w' := by
  have CC : Hid _ := mcheck h p k hp
  by_cases h0 : askV l.length p k = 0
  · obtain ⟨h1, h2, h3⟩ := ask_zero h0
    have e : storeL l p k x = l.set (p / 4).toNat (storeV (wordAt l (p / 4).toNat) p k x) := by unfold storeL; rw [if_pos h0]
    rw [e, h0]
    rw [h0] at CC
    clear e
    obtain ⟨P, rfl⟩ := Int.eq_ofNat_of_zero_le hp.1
    obtain ⟨k', rfl⟩ := Int.eq_ofNat_of_zero_le (show 0 ≤ k by omega)
    rw [show ((P : Int) / 4).toNat = P / 4 by omega]
    have hk : k' = 1 ∨ k' = 2 ∨ k' = 4 := by omega
    have hm : P % k' = 0 := by exact_mod_cast h2
    have hl : P < 4 * l.length := by omega
    have hq : P + k' ≤ 4 * l.length := by rcases hk with rfl | rfl | rfl <;> omega
    have CP : Hid _ := mput h.raw P k' x hx (by omega) hq
    have HF : Hid _ := byteAt_store l P k' x h.u32 hx hk hm hl
    have HH : Hid _ := h
    have hv : U32 (storeV (wordAt l (P / 4)) P k' x) := bits_u32 _ _ _
    generalize storeV (wordAt l (P / 4)) P k' x = v at *
    have p1 := hp.2
    clear h h0 h2 h3 hp h1 hm
    go_enter Try.func11, Try.ntmps11
    go_wp2_with fail
    refine Calls.mono CC.out ?_
    rintro e w' ⟨rfl, rfl⟩
    go_wp2_with fail
    refine Calls.mono CP.out ?_
    rintro e w1 ⟨rfl, hr, ha⟩
    go_wp2
    go_ret
    refine ⟨rfl, hr.lies (by rw [List.length_set]) (by rw [List.length_set]; exact HH.out.len) (fun z hz => ?_) (fun j _ => HF.out j), ha⟩
    rcases List.mem_or_eq_of_mem_set hz with h1 | h1
    · exact HH.out.u32 z h1
    · rw [h1]; exact hv
  · have e : storeL l p k x = l := by unfold storeL; rw [if_neg h0]
    rw [e]
    have HH : Hid _ := h
    clear e h hp
    generalize askV l.length p k = E at *
    go_enter Try.func11, Try.ntmps11
    go_wp2_with fail
    refine Calls.mono CC.out ?_
    rintro e w' ⟨rfl, rfl⟩
    go_wp2
    go_ret
    exact ⟨rfl, HH.out, Apart.refl _ _⟩
end Go.Proofs.Ytbfliilabkjkgaa
