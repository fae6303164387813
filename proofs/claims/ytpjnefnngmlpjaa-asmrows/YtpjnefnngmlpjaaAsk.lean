/-
  Package asm: a label's address, and how far it is.
-/
import Derived.Test.YtpjnefnngmlpjaaAsj
namespace Go.Proofs.Ytpjnefnngmlpjaa
open Go.RowKit

def addrV (base s : Int) : Int := (base + 4 * (s % 4294967296) % 4294967296) % 4294967296
theorem addrV_u (base s : Int) : U32 (addrV base s) := ⟨by unfold addrV; omega, by unfold addrV; omega⟩
set_option maxRecDepth 100000 in
set_option maxHeartbeats 2000000 in
theorem aAddr {w : World} {wb pb gb B n b off : Nat} {sa : Option Addr} {cap g gf : Nat} {base : Int} {xs : List It} {wv sv : Value} {ws : List Int} {ss : List (ByteArray × Int)} (hp : ProgAt w pb b off sa cap g gf base xs) (h : WrAt w wb pb gb B n (sumV xs) wv sv ws ss) (nm : ByteArray) (hnm : Nm nm) (i : Nat) (hi : i < n) (hM : labF xs xs.length nm = some (i : Int)) :
    Calls Try.prog 79 #[.pointer (some ⟨wb, 0, none⟩), .string nm] w fun e w' => e = .returned (.int .u32 (addrV base (sumV xs i))) ∧ Below w.heap.size w w' := by
  have hmo : Try.prog.follows .mixedOrders = true := by kernel_rfl
  have HW : Hid _ := h
  have HP : Hid _ := hp
  have HNM : Hid _ := hnm
  have HM : Hid (labF xs xs.length nm = some (i : Int)) := hM
  obtain ⟨y, hy⟩ : ∃ y, y = sumV xs i := ⟨_, rfl⟩
  have HY : Hid ((intsF n (sumV xs))[i]? = some (.int .i64 y)) := by rw [hy]; exact intsF_at n _ i hi
  rw [← hy]
  obtain ⟨y1, hy1⟩ : ∃ y1, y1 = y % 4294967296 := ⟨_, rfl⟩
  obtain ⟨y2, hy2⟩ : ∃ y2, y2 = 4 * y1 % 4294967296 := ⟨_, rfl⟩
  obtain ⟨y3, hy3⟩ : ∃ y3, y3 = (base + y2) % 4294967296 := ⟨_, rfl⟩
  have hr : addrV base y = y3 := by unfold addrV; rw [hy3, hy2, hy1]
  rw [hr]
  have a1 : IntKind.u32.wrap y = y1 := by rw [IntKind.wrap_u32, hy1]
  have a2 : IntKind.u32.wrap (4 * y1) = y2 := by rw [IntKind.wrap_u32, hy2]
  have a3 : IntKind.u32.wrap (base + y2) = y3 := by rw [IntKind.wrap_u32, hy3]
  have i0 : (0 : Int) ≤ (i : Int) := by omega
  have i1 : (i : Int) < (n : Int) := by omega
  clear h hp hnm hM hy hy1 hy2 hy3 hr
  go_enter Try.func79, Try.ntmps79
  go_wp2_with fail
  refine wp_region_mix [] [.pointer (some ⟨wb, 0, none⟩), .pointer (some ⟨wb, 0, none⟩), .pointer (some ⟨wb, 0, none⟩), .pointer (some ⟨pb, 0, none⟩), .pointer (some ⟨pb, 0, none⟩), .pointer (some ⟨pb, 0, none⟩), .int .u32 base, .pointer (some ⟨wb, 0, none⟩), .pointer (some ⟨wb, 0, none⟩), .pointer (some ⟨wb, 1, none⟩), .slice (some ⟨gb, 0, none⟩) n n, .pointer (some ⟨wb, 0, none⟩), .pointer (some ⟨wb, 0, none⟩), .pointer (some ⟨wb, 0, none⟩), .pointer (some ⟨pb, 0, none⟩), .pointer (some ⟨pb, 0, none⟩), .pointer (some ⟨pb, 2, none⟩), .map (some g), .string nm, .int .i64 i, .pointer (some ⟨gb, i, none⟩), .int .i64 y, .int .u32 y1, .int .u32 y2, .int .u32 y3, .int .u32 y3] hmo (by kernel_rfl) (by intro r hr; cases hr) ?_ (by intro r hr; cases hr) (by intro r hr; cases hr) ?_
  · generalize hl : lay _ _ _ = af
    have e0 : af.tmps[0]?.getD undef = .pointer (some ⟨wb, 0, none⟩) := by rw [← hl]; kernel_rfl
    have e1 : af.tmps[1]?.getD undef = .string nm := by rw [← hl]; kernel_rfl
    have e5 : af.tmps[5]?.getD undef = .pointer (some ⟨wb, 0, none⟩) := by rw [← hl]; kernel_rfl
    have e6 : af.tmps[6]?.getD undef = .pointer (some ⟨wb, 0, none⟩) := by rw [← hl]; kernel_rfl
    have e7 : af.tmps[7]?.getD undef = .pointer (some ⟨wb, 0, none⟩) := by rw [← hl]; kernel_rfl
    have e8 : af.tmps[8]?.getD undef = .pointer (some ⟨pb, 0, none⟩) := by rw [← hl]; kernel_rfl
    have e9 : af.tmps[9]?.getD undef = .pointer (some ⟨pb, 0, none⟩) := by rw [← hl]; kernel_rfl
    have e10 : af.tmps[10]?.getD undef = .pointer (some ⟨pb, 0, none⟩) := by rw [← hl]; kernel_rfl
    have e11 : af.tmps[11]?.getD undef = .int .u32 base := by rw [← hl]; kernel_rfl
    have e12 : af.tmps[12]?.getD undef = .pointer (some ⟨wb, 0, none⟩) := by rw [← hl]; kernel_rfl
    have e13 : af.tmps[13]?.getD undef = .pointer (some ⟨wb, 0, none⟩) := by rw [← hl]; kernel_rfl
    have e14 : af.tmps[14]?.getD undef = .pointer (some ⟨wb, 1, none⟩) := by rw [← hl]; kernel_rfl
    have e15 : af.tmps[15]?.getD undef = .slice (some ⟨gb, 0, none⟩) n n := by rw [← hl]; kernel_rfl
    have e16 : af.tmps[16]?.getD undef = .pointer (some ⟨wb, 0, none⟩) := by rw [← hl]; kernel_rfl
    have e17 : af.tmps[17]?.getD undef = .pointer (some ⟨wb, 0, none⟩) := by rw [← hl]; kernel_rfl
    have e18 : af.tmps[18]?.getD undef = .pointer (some ⟨wb, 0, none⟩) := by rw [← hl]; kernel_rfl
    have e19 : af.tmps[19]?.getD undef = .pointer (some ⟨pb, 0, none⟩) := by rw [← hl]; kernel_rfl
    have e20 : af.tmps[20]?.getD undef = .pointer (some ⟨pb, 0, none⟩) := by rw [← hl]; kernel_rfl
    have e21 : af.tmps[21]?.getD undef = .pointer (some ⟨pb, 2, none⟩) := by rw [← hl]; kernel_rfl
    have e24 : af.tmps[24]?.getD undef = .int .i64 i := by rw [← hl]; kernel_rfl
    have e25 : af.tmps[25]?.getD undef = .pointer (some ⟨gb, i, none⟩) := by rw [← hl]; kernel_rfl
    have e26 : af.tmps[26]?.getD undef = .int .i64 y := by rw [← hl]; kernel_rfl
    have e27 : af.tmps[27]?.getD undef = .int .u32 y1 := by rw [← hl]; kernel_rfl
    have e28 : af.tmps[28]?.getD undef = .int .u32 y2 := by rw [← hl]; kernel_rfl
    have e29 : af.tmps[29]?.getD undef = .int .u32 y3 := by rw [← hl]; kernel_rfl
    have v22 : af.eval (.tmp 22) = .map (some g) := by rw [← hl]; kernel_rfl
    have v23 : af.eval (.tmp 23) = .string nm := by rw [← hl]; kernel_rfl
    clear hl
    refine And.intro (fun w' hw => quiet_run (by simp [execOp, go_sem, e0])) ?_
    refine And.intro (fun w' hw => quiet_run (by simp [execOp, go_sem, e5])) ?_
    refine And.intro (fun w' hw => quiet_run (by simp [execOp, go_sem, e6])) ?_
    refine And.intro (fun w' hw => by
      have c : w'.cell? ⟨wb, 0, none⟩ = some (.pointer (some ⟨pb, 0, none⟩)) := (cells_of (HW.out.below hw).blk).1 0 _ rfl
      exact quiet_run (by simp [execOp, go_sem, e7, c])) ?_
    refine And.intro (fun w' hw => quiet_run (by simp [execOp, go_sem, e8])) ?_
    refine And.intro (fun w' hw => quiet_run (by simp [execOp, go_sem, e9])) ?_
    refine And.intro (fun w' hw => by
      have c : w'.cell? ⟨pb, 0, none⟩ = some (.int .u32 base) := (cells_of (HP.out.below hw).blk).1 0 _ rfl
      exact quiet_run (by simp [execOp, go_sem, e10, c])) ?_
    refine And.intro (fun w' hw => quiet_run (by simp [execOp, go_sem, e0])) ?_
    refine And.intro (fun w' hw => quiet_run (by simp [execOp, go_sem, e12])) ?_
    refine And.intro (fun w' hw => quiet_run (by simp [execOp, go_sem, e13])) ?_
    refine And.intro (fun w' hw => by
      have c : w'.cell? ⟨wb, 1, none⟩ = some (.slice (some ⟨gb, 0, none⟩) n n) := (cells_of (HW.out.below hw).blk).1 1 _ rfl
      exact quiet_run (by simp [execOp, go_sem, e14, c])) ?_
    refine And.intro (fun w' hw => quiet_run (by simp [execOp, go_sem, e0])) ?_
    refine And.intro (fun w' hw => quiet_run (by simp [execOp, go_sem, e16])) ?_
    refine And.intro (fun w' hw => quiet_run (by simp [execOp, go_sem, e17])) ?_
    refine And.intro (fun w' hw => by
      have c : w'.cell? ⟨wb, 0, none⟩ = some (.pointer (some ⟨pb, 0, none⟩)) := (cells_of (HW.out.below hw).blk).1 0 _ rfl
      exact quiet_run (by simp [execOp, go_sem, e18, c])) ?_
    refine And.intro (fun w' hw => quiet_run (by simp [execOp, go_sem, e19])) ?_
    refine And.intro (fun w' hw => quiet_run (by simp [execOp, go_sem, e20])) ?_
    refine And.intro (fun w' hw => by
      have c : w'.cell? ⟨pb, 2, none⟩ = some (.map (some g)) := (cells_of (HP.out.below hw).blk).1 2 _ rfl
      exact quiet_run (by simp [execOp, go_sem, e21, c])) ?_
    refine And.intro (fun w' hw => quiet_run (by simp [execOp, go_sem, e1])) ?_
    refine And.intro (fun w' hw => by
      have f := mapS_look (HP.out.below hw).lab nm HNM.out false
      rw [HM.out] at f
      exact quiet_run (by simp [execOp, v22, v23, f, Result.andThen])) ?_
    refine And.intro (fun w' hw => quiet_run (by simp [execOp, go_sem, e15, e24, i0, i1])) ?_
    refine And.intro (fun w' hw => by
      have c : w'.cell? ⟨gb, i, none⟩ = some (.int .i64 y) := (cells_of (HW.out.below hw).st).1 i _ HY.out
      exact quiet_run (by simp [execOp, go_sem, e25, c])) ?_
    refine And.intro (fun w' hw => quiet_run (by simp [execOp, go_sem, e26, a1])) ?_
    refine And.intro (fun w' hw => quiet_run (by simp [execOp, go_sem, e27, a2])) ?_
    refine And.intro (fun w' hw => quiet_run (by simp [execOp, go_sem, e11, e28, a3])) ?_
    refine And.intro (fun w' hw => quiet_run (by simp [execOp, go_sem, e29])) ?_
    exact True.intro
  · intro β w1 hw1 _ _
    have HW1 : Hid _ := hw1
    clear hw1
    simp [putAl, lay, Act.put]
    go_wp2
    go_ret
    exact ⟨rfl, HW1.out⟩
end Go.Proofs.Ytpjnefnngmlpjaa
