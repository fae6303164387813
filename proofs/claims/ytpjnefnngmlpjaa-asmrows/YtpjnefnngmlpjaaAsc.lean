/-
  Package asm: a program in a world, none of its branches far; leapAt, isFar, isShort, size, firstFull.
-/
import Derived.Test.YtpjnefnngmlpjaaAsb
import Derived.Test.YtpjnefnngmlpjaaCodeb
import Derived.Test.YtpjnefnngmlpjaaMix
namespace Go.Proofs.Ytpjnefnngmlpjaa
open Go.RowKit

/-- A program, none of its branches far. -/
structure ProgAt (w : World) (pb b off : Nat) (sa : Option Addr) (cap g gf : Nat) (base : Int) (xs : List It) : Prop where
  blk : w.heap[pb]? = some (.cells #[.int .u32 base, .slice sa xs.length cap, .map (some g), .map (some gf)] 75)
  its : ItsAt w b off sa xs
  lab : MapS w g xs.length (labF xs xs.length)
  far : w.heap[gf]? = some (.map #[] 0)
section
variable {w w' : World} {pb b off : Nat} {sa : Option Addr} {cap g gf : Nat} {base : Int} {xs : List It}
theorem ProgAt.below (h : ProgAt w pb b off sa cap g gf base xs) (hb : Below w.heap.size w w') : ProgAt w' pb b off sa cap g gf base xs :=
  ⟨kept_on h.blk hb, h.its.below hb, mapS_kept h.lab hb, kept_on h.far hb⟩
theorem ProgAt.slice (h : ProgAt w pb b off sa cap g gf base xs) : w.cell? ⟨pb, 1, none⟩ = some (.slice sa xs.length cap) := (cells_of h.blk).1 1 _ rfl
end
/-- What an item may be. -/
structure ItOk (x : It) : Prop where
  n : U32 x.n
  nm : Nm x.name
  wl : x.wl ≤ 1000000000
def shortV (n : Int) : Bool := sextV n 12 == n
def sizeV (x : It) : Int :=
  if x.kind = 2 ∨ x.kind = 4 then 1 else if x.kind = 3 then 1 else if x.kind = 5 then (if shortV x.n then 1 else 2) else if x.kind = 6 then 2 else if x.kind = 7 then x.wl else if x.kind = 8 then x.n else 0
theorem sizeV_le {x : It} (h : ItOk x) : 0 ≤ sizeV x ∧ sizeV x ≤ 4294967296 := by
  have h1 := h.n.1
  have h2 := h.n.2
  have h3 := h.wl
  unfold sizeV
  repeat' split
  all_goals constructor <;> omega
set_option maxHeartbeats 2000000 in
theorem aShort (n : Int) (hn : U32 n) (w : World) : Calls Try.prog 78 #[.int .u32 n] w fun e w' => e = .returned (.bool (shortV n)) ∧ w' = w := by
  have C : Hid _ := wsext n 12 hn
  unfold shortV
  generalize sextV n 12 = y at *
  clear hn
  go_enter Try.func78, Try.ntmps78
  go_wp2_with fail
  refine (C.out _).mono ?_
  rintro e w1 ⟨rfl, hw1⟩
  rw [hw1]
  clear hw1 w1
  go_wp2
  go_ret
  exact ⟨rfl, rfl⟩
set_option maxRecDepth 100000 in
set_option maxHeartbeats 4000000 in
theorem aLeap {w : World} {pb b off : Nat} {sa : Option Addr} {cap g gf : Nat} {base : Int} {xs : List It} (h : ProgAt w pb b off sa cap g gf base xs) (hl : xs.length ≤ 1000000) (k : Nat) (x : It) (hx : xs[k]? = some x) :
    Calls Try.prog 52 #[.pointer (some ⟨pb, 0, none⟩), .int .i64 k] w fun e w' => e = .returned (.agg #[.int .i64 k, .string x.name]) ∧ Below w.heap.size w w' := by
  have hk : k < xs.length := (List.getElem?_eq_some_iff.1 hx).1
  have B1 : Below w.heap.size w (w.alloc (.cells #[.int .i64 0, .string ⟨#[]⟩] 108)) := (Below.refl _ _).alloc (Nat.le_refl _) _
  have B1h : Hid _ := B1
  have P1 := h.below B1
  have c1 := P1.slice
  obtain ⟨ea, hb⟩ := P1.its.at' (by omega)
  have e1 : (w.alloc (.cells #[.int .i64 0, .string ⟨#[]⟩] 108)).cell? ⟨b, off + k * 9 + 1, none⟩ = some (.string x.name) := P1.its.row k x hx 1 _ rfl
  subst ea
  have k0 : (0 : Int) ≤ (k : Int) := by omega
  have k1 : (k : Int) < (xs.length : Int) := by omega
  clear h P1 hx hb B1
  generalize xs.length = n at *
  generalize x.name = nm at *
  go_enter Try.func52, Try.ntmps52
  go_wp2
  exact bodyPost_ret (v := .agg #[.int .i64 k, .string nm]) (by simp [results, Try.results52, go_sem]) rfl ⟨rfl, (Below.refl _ _).alloc (Nat.le_refl _) _⟩
theorem fundM : Try.prog.underlying 73 = some (.map 108 106) := by kernel_rfl
theorem fzero (w : World) : (zeroValue 106).run Try.prog w = .ok (.agg #[]) w := by kernel_rfl
theorem far_check (k : Int) (nm : ByteArray) (w : World) : (Instr.checkKey true 10000 108 (.agg #[.int .i64 k, .string nm])).run Try.prog w = .ok () w := by kernel_rfl
theorem far_none {w : World} {gf : Nat} (h : w.heap[gf]? = some (.map #[] 0)) (k : Int) (nm : ByteArray) :
    (Instr.lookup 73 (.map (some gf)) (.agg #[.int .i64 k, .string nm]) true).run Try.prog w = .ok (.tuple #[.agg #[], .bool false]) w := by
  have hc := far_check k nm
  have hf : ∀ w, (Instr.findKey 108 (.agg #[.int .i64 k, .string nm]) []).run Try.prog w = .ok none w := fun w => by kernel_rfl
  simp [Instr.lookup, run_underlying fundM, Go.MapKept.run_getObj_map h, hc, hf, fzero w, Result.andThen]
theorem far_alloc (w : World) : (Instr.alloc 106 true (.tuple #[])).run Try.prog w = .ok (.pointer (some ⟨w.heap.size, 0, none⟩)) (w.alloc (.cells #[] 106)) := by kernel_rfl
theorem far_info : (Try.prog.info? 106).map (·.size) = some 0 := by kernel_rfl
set_option maxRecDepth 100000 in
set_option maxHeartbeats 4000000 in
theorem aFar {w : World} {pb b off : Nat} {sa : Option Addr} {cap g gf : Nat} {base : Int} {xs : List It} (h : ProgAt w pb b off sa cap g gf base xs) (hl : xs.length ≤ 1000000) (k : Nat) (x : It) (hx : xs[k]? = some x) :
    Calls Try.prog 77 #[.pointer (some ⟨pb, 0, none⟩), .int .i64 k] w fun e w' => e = .returned (.bool false) ∧ Below w.heap.size w w' := by
  have hmo : Try.prog.follows .mixedOrders = true := by kernel_rfl
  have H1 : Hid _ := h
  have CL : Hid _ := fun w' (hw : Below w.heap.size w w') => aLeap (h.below hw) hl k x hx
  clear h hl hx
  go_enter Try.func77, Try.ntmps77
  go_wp2_with fail
  refine wp_region_mix [⟨11, 5, 106, 12, 16, #[], #[]⟩]
    [.pointer (some ⟨pb, 0, none⟩), .pointer (some ⟨pb, 0, none⟩), .pointer (some ⟨pb, 3, none⟩), .map (some gf), .pointer (some ⟨pb, 0, none⟩), .int .i64 k, .agg #[.int .i64 k, .string x.name], .tuple #[.agg #[], .bool false], .tuple #[.agg #[], .bool false], .agg #[], .bool false, undef, undef, .bool false]
    hmo (by kernel_rfl) ?_ ?_ ?_ ?_ ?_
  · intro r hr
    simp only [List.mem_cons, List.not_mem_nil, or_false] at hr
    subst hr
    exact (by decide : 5 < 19)
  · generalize hl : lay _ _ _ = af
    have e0 : af.tmps[0]?.getD undef = .pointer (some ⟨pb, 0, none⟩) := by rw [← hl]; kernel_rfl
    have e1 : af.tmps[1]?.getD undef = .int .i64 k := by rw [← hl]; kernel_rfl
    have e8 : af.tmps[8]?.getD undef = .pointer (some ⟨pb, 0, none⟩) := by rw [← hl]; kernel_rfl
    have e9 : af.tmps[9]?.getD undef = .pointer (some ⟨pb, 0, none⟩) := by rw [← hl]; kernel_rfl
    have e10 : af.tmps[10]?.getD undef = .pointer (some ⟨pb, 3, none⟩) := by rw [← hl]; kernel_rfl
    have v11 : af.eval (.tmp 11) = .map (some gf) := by rw [← hl]; kernel_rfl
    have e12 : af.tmps[12]?.getD undef = .pointer (some ⟨pb, 0, none⟩) := by rw [← hl]; kernel_rfl
    have e13 : af.tmps[13]?.getD undef = .int .i64 k := by rw [← hl]; kernel_rfl
    have v14 : af.eval (.tmp 14) = .agg #[.int .i64 k, .string x.name] := by rw [← hl]; kernel_rfl
    have e15 : af.tmps[15]?.getD undef = .tuple #[.agg #[], .bool false] := by rw [← hl]; kernel_rfl
    have e7 : af.tmps[7]?.getD undef = .tuple #[.agg #[], .bool false] := by rw [← hl]; kernel_rfl
    have e17 : af.tmps[17]?.getD undef = .bool false := by rw [← hl]; kernel_rfl
    clear hl
    refine And.intro (fun w' hw => quiet_run (by simp [execOp, go_sem, e0])) ?_
    refine And.intro (fun w' hw => quiet_run (by simp [execOp, go_sem, e8])) ?_
    refine And.intro (fun w' hw => quiet_run (by simp [execOp, go_sem, e9])) ?_
    refine And.intro (fun w' hw => by
      have c3 : w'.cell? ⟨pb, 3, none⟩ = some (.map (some gf)) := (cells_of (H1.out.below hw).blk).1 3 _ rfl
      exact quiet_run (by simp [execOp, go_sem, e10, c3])) ?_
    refine And.intro (fun w' hw => quiet_run (by simp [execOp, go_sem, e0])) ?_
    refine And.intro (fun w' hw => quiet_run (by simp [execOp, go_sem, e1])) ?_
    refine And.intro (fun w' hw => quiet_enter 52 #[.pointer (some ⟨pb, 0, none⟩), .int .i64 k] (by simp [go_sem, e12, e13]) (CL.out _ hw)) ?_
    refine And.intro (fun w' hw => by
      have f := far_none (H1.out.below hw).far k x.name
      exact quiet_run (by simp [execOp, v11, v14, f, Result.andThen])) ?_
    refine And.intro (fun w' hw => quiet_run (by simp [execOp, go_sem, e15])) ?_
    refine And.intro (fun w' hw => quiet_run (by simp [execOp, go_sem, e7])) ?_
    refine And.intro (fun w' hw => quiet_run (by simp [execOp, go_sem, e7])) ?_
    refine And.intro True.intro (And.intro True.intro ?_)
    refine And.intro (fun w' hw => quiet_run (by simp [execOp, go_sem, e17])) ?_
    exact True.intro
  · intro r hr
    simp only [List.mem_cons, List.not_mem_nil, or_false] at hr
    subst hr
    exact far_alloc
  · intro r hr
    simp only [List.mem_cons, List.not_mem_nil, or_false] at hr
    generalize hl : lay _ _ _ = af
    have e16 : af.eval (.tmp 16) = .agg #[] := by rw [← hl]; kernel_rfl
    clear hl
    subst hr
    intro w1 b1 hb1
    rw [e16]
    exact turned_row _ _ #[] #[] far_info rfl (by simp) b1 hb1
  · intro β w1 hw1 _ _
    simp [putAl, lay, Act.put]
    go_wp2
    go_ret
    exact ⟨rfl, hw1⟩
end Go.Proofs.Ytpjnefnngmlpjaa
