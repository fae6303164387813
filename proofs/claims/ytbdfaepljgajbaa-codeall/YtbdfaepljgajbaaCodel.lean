/-
  The map of an opcode's forms, as the code makes it: the contract of the function that does it.
-/
import Derived.Test.YtbdfaepljgajbaaCodek
namespace Go.Proofs.Ytbdfaepljgajbaa
open Go.RowKit Go.Maps

theorem below_grown {B : Nat} {w w1 w2 : World} {b : Nat} (h : Below B w w1) (hg : w1.grownBy w2 (some b)) (hB : B ≤ w1.heap.size) (hb : B ≤ b) : Below B w w2 :=
  h.grown hg hB (fun k e => by cases e; exact hb)

set_option maxRecDepth 100000 in
set_option maxHeartbeats 2000000 in
theorem cformsWith (opc : Int) (w : World) :
    Calls Try.prog 36 #[.int .u32 opc] w fun e w' => ∃ g n D, e = .returned (.map (some g)) ∧ w.heap.size ≤ g ∧ Below w.heap.size w w' ∧ w'.ownsMap Try.prog 77 readF g n D ∧ MapOf opc 53 D := by
  have hown0 := World.ownsMap_made w Try.prog 77 readF
  have hmk : (Instr.makeMap 79 none).run Try.prog w = .ok (.map (some w.heap.size)) (w.alloc (.map #[] 0)) := by kernel_rfl
  go_enter Try.func36, Try.ntmps36
  go_wp2_with fail
  refine (cforms _).mono ?_
  rintro e w1 ⟨rfl, hb1⟩
  have hown1 : w1.ownsMap Try.prog 77 readF w.heap.size 0 (.map []) := by
    obtain ⟨es, clock, h1, h2⟩ := hown0
    exact ⟨es, clock, kept_on h1 hb1, h2⟩
  have HO : Hid _ := hown1
  have HB : Hid (Below w.heap.size w w1) := below_first hb1
  have HI : Hid (∀ k, k < 53 → ∀ w, (Instr.index 69 (.agg fcells.toArray) (.int .i64 (k : Nat))).run Try.prog w = .ok (.agg (rowC k).toArray) w) := indexF
  clear hown0 hown1 hmk hb1
  generalize fcells.toArray = FC at *
  go_wp2_with fail
  go_loopw [8] (fun i wr => ∃ (k : Nat) (D : DataW Unit), k ≤ 53 ∧ i = .int .i64 k ∧ Hid (Below w.heap.size w wr) ∧ Hid (wr.ownsMap Try.prog 77 readF w.heap.size k D) ∧ Hid (MapOf opc k D)) (fun i _ => 53 - (intOf i).toNat)
  case atStart => exact ⟨0, .map [], Nat.zero_le _, rfl, HB, HO, map_start opc⟩
  case round =>
    obtain ⟨k, D, hk, rfl, hbr, hown, hmap⟩ := hrel
    have hws : w.heap.size ≤ wr.heap.size := hbr.out.size
    by_cases hlt : k < 53
    · have hi := HI.out k hlt wr
      unfold rowC at hi
      obtain ⟨u1, u2, u3⟩ := form_u32 k hlt
      obtain ⟨la, HL⟩ : ∃ la, Hid (lay9 (formAt k).2.k = la) := ⟨_, rfl⟩
      rw [HL.out] at hi
      have HD : Hid (datA k = datV (opAt k) la (fo k) (ff k) (fg k)) := by show _ = _; unfold datA; rw [HL.out]
      change Sem.run _ _ _ = Result.ok (Value.agg #[.string (opAt k), .int .i64 la, .int .u32 (fo k), .int .u32 (ff k), .int .u32 (fg k)]) _ at hi
      by_cases he : fo k = opc
      · have HP : Hid (MapOf opc (k + 1) (D.put (klV (fo k) (fg k) (ff k)) (datA k))) := map_put hlt hown.out.isMap hmap.out he
        have Hkey : Hid _ := key_of u1 u3 u2
        rw [HD.out] at HP
        generalize hfo : fo k = ko at *
        generalize fg k = kg at *
        generalize ff k = kf at *
        clear u1 u2 u3 hfo
        subst he
        go_wp2_with (first | (at_mapUpdate; refine wpList_mapUpdate_own _ rfl _ _ _ 79 rfl 77 51 keyed undM readF w.heap.size k D rfl (hown.out.alloc _) (by unfold maxLen; omega) _ _ _ rfl rfl Hkey.out _ [] (readF_mk (opAt k) la ko kf kg) ?_; intro w2 hown2 hgrow2))
        refine ⟨⟨k + 1, _, by omega, by go_num, ?_, hown2, HP.out⟩, by simp [intOf]; omega⟩
        exact below_grown (hbr.out.alloc hws _) hgrow2 (by simp; omega) (Nat.le_refl _)
      · have HP : Hid (MapOf opc (k + 1) D) := map_skip hmap.out he
        go_wp2_with fail
        refine ⟨⟨k + 1, D, by omega, by go_num, hbr.out.alloc hws _, (hown.out.alloc _).mono (by omega), HP⟩, by simp [intOf]; omega⟩
    · have hk53 : k = 53 := by omega
      subst hk53
      go_wp2
      go_ret
      exact ⟨_, _, _, rfl, Nat.le_refl _, hbr.out, hown.out, hmap.out⟩
end Go.Proofs.Ytbdfaepljgajbaa
