/-
  Package image: parts as plain data, where they lie; rightsStand.
-/
import Derived.Test.YtfjppgfnjjmkpaaImc
namespace Go.Proofs.Ytfjppgfnjjmkpaa
open Go.RowKit

/-- A part: its name, its regions, its keys and syms: the slices and what they hold. -/
structure Pt where
  name : ByteArray
  code : Rg
  data : Rg
  ka : Option Addr
  kl : Nat
  kc : Nat
  sa : Option Addr
  sl : Nat
  sc : Nat
  ks : List Rg
  ss : List (ByteArray × Int)
def Pt.cells (p : Pt) : Array Value := #[.string p.name, .int .u32 p.code.lo, .int .u32 p.code.hi, .bool p.code.x, .bool p.code.w, .int .u32 p.data.lo, .int .u32 p.data.hi, .bool p.data.x, .bool p.data.w, .slice p.ka p.kl p.kc, .slice p.sa p.sl p.sc]
theorem Pt.size (p : Pt) : p.cells.size = 11 := rfl
theorem Pt.one (p : Pt) : p.cells.all (·.oneCell') = true := by simp [Pt.cells, Value.oneCell']
theorem rg_one (r : Rg) : (#[Value.int .u32 r.lo, .int .u32 r.hi, .bool r.x, .bool r.w] : Array Value).all (·.oneCell') = true := by simp [Value.oneCell']
theorem infoPt : (Try.prog.info? 40).map (·.size) = some 11 := by kernel_rfl
theorem infoRg : (Try.prog.info? 25).map (·.size) = some 4 := by kernel_rfl
theorem infoSy : (Try.prog.info? 49).map (·.size) = some 2 := by kernel_rfl
theorem infoIm : (Try.prog.info? 28).map (·.size) = some 10 := by kernel_rfl
theorem undPt : ∃ fs, Try.prog.underlying 40 = some (.struct fs) := ⟨_, Try.underlying40⟩
theorem undRg : ∃ fs, Try.prog.underlying 25 = some (.struct fs) := ⟨_, Try.underlying25⟩
theorem undSy : ∃ fs, Try.prog.underlying 49 = some (.struct fs) := ⟨_, Try.underlying49⟩
theorem undIm : ∃ fs, Try.prog.underlying 28 = some (.struct fs) := ⟨_, Try.underlying28⟩
/-- Syms that lie in a world. -/
structure SymsAt (w : World) (sa : Option Addr) (b off : Nat) (l : List (ByteArray × Int)) : Prop where
  sa : 0 < l.length → sa = some ⟨b, off, none⟩ ∧ b < w.heap.size
  row : ∀ i p, l[i]? = some p → w.rangeAt b (off + i * 2) [.string p.1, .int .u32 p.2]
theorem SymsAt.below {w w' : World} {sa : Option Addr} {b off : Nat} {l : List (ByteArray × Int)} (h : SymsAt w sa b off l) (hb : Below w.heap.size w w') : SymsAt w' sa b off l :=
  ⟨fun n => ⟨(h.sa n).1, Nat.lt_of_lt_of_le (h.sa n).2 hb.size⟩, fun i p hp j v hv => by
    have hl : 0 < l.length := by have := (List.getElem?_eq_some_iff.1 hp).1; omega
    rw [hb.cell (p := ⟨b, off + i * 2 + j, none⟩) (h.sa hl).2]
    exact h.row i p hp j v hv⟩
/-- A part's keys and syms lie in a world. -/
structure PtAt (w : World) (p : Pt) : Prop where
  keys : ∃ b off, Regs w p.ka b off p.ks
  syms : ∃ b off, SymsAt w p.sa b off p.ss
  kl : p.kl = p.ks.length
  sl : p.sl = p.ss.length
theorem PtAt.below {w w' : World} {p : Pt} (h : PtAt w p) (hb : Below w.heap.size w w') : PtAt w' p := by
  obtain ⟨⟨b, o, h1⟩, ⟨b', o', h2⟩, h3, h4⟩ := h
  exact ⟨⟨b, o, h1.below hb⟩, ⟨b', o', h2.below hb⟩, h3, h4⟩
/-- Parts that lie in a world. -/
structure PartsAt (w : World) (b off : Nat) (sa : Option Addr) (ps : List Pt) : Prop where
  at' : 0 < ps.length → sa = some ⟨b, off, none⟩ ∧ b < w.heap.size
  row : ∀ i p, ps[i]? = some p → w.rangeAt b (off + i * 11) p.cells.toList
  in' : ∀ p ∈ ps, PtAt w p
theorem PartsAt.lt {w : World} {b off : Nat} {sa : Option Addr} {ps : List Pt} (_ : PartsAt w b off sa ps) {i : Nat} {p : Pt} (hx : ps[i]? = some p) : 0 < ps.length := by
  have := (List.getElem?_eq_some_iff.1 hx).1
  omega
theorem PartsAt.below {w w' : World} {b off : Nat} {sa : Option Addr} {ps : List Pt} (h : PartsAt w b off sa ps) (hb : Below w.heap.size w w') : PartsAt w' b off sa ps :=
  ⟨fun h0 => ⟨(h.at' h0).1, Nat.lt_of_lt_of_le (h.at' h0).2 hb.size⟩, fun i p hp j v hv => by
    rw [hb.cell (p := ⟨b, off + i * 11 + j, none⟩) (h.at' (h.lt hp)).2]
    exact h.row i p hp j v hv, fun p hp => (h.in' p hp).below hb⟩
/-- What a part may be. -/
structure PtOk (p : Pt) : Prop where
  nm : Nm p.name
  code : RgU p.code
  data : RgU p.data
  ks : ∀ r ∈ p.ks, RgU r
  ss : ∀ s ∈ p.ss, Nm s.1 ∧ U32 s.2
  kl : p.ks.length ≤ 1000
  sl : p.ss.length ≤ 1000
theorem regs_row {w : World} {sa : Option Addr} {b off : Nat} {l : List Rg} (h : Regs w sa b off l) {i : Nat} {r : Rg} (hr : l[i]? = some r) : w.rangeAt b (off + i * 4) [.int .u32 r.lo, .int .u32 r.hi, .bool r.x, .bool r.w] := fun j v hv => by
  have hi := (List.getElem?_eq_some_iff.1 hr).1
  have e : rgAt l i = r := by unfold rgAt; rw [List.getD_eq_getElem?_getD, hr]; rfl
  have := h.cell i hi j v (by rw [e]; exact hv)
  exact this
/-- An image: its words, its regions, its parts. -/
structure Im where
  wa : Option Addr
  wl : Nat
  wc : Nat
  kern : Rg
  keys : Rg
  pa : Option Addr
  pc : Nat
  ps : List Pt
def Im.cells (i : Im) : Array Value := #[.slice i.wa i.wl i.wc, .int .u32 i.kern.lo, .int .u32 i.kern.hi, .bool i.kern.x, .bool i.kern.w, .int .u32 i.keys.lo, .int .u32 i.keys.hi, .bool i.keys.x, .bool i.keys.w, .slice i.pa i.ps.length i.pc]
theorem Im.size (i : Im) : i.cells.size = 10 := rfl
structure ImOk (i : Im) : Prop where
  wl : i.wl ≤ maxLen
  kern : RgU i.kern
  keys : RgU i.keys
  few : i.ps.length ≤ 1000
  ps : ∀ p ∈ i.ps, PtOk p
def rightsP (p : Pt) : Bool := hasV p.code true false && hasV p.data false true && p.ks.all fun k => hasV k false false
def rightsV (i : Im) : Bool := (i.kern.lo == 0) && !(isEmptyV i.kern) && i.ps.all rightsP
theorem all_not {α : Type} {l : List α} {f : α → Bool} {k : Nat} {x : α} (hx : l[k]? = some x) (h : f x = false) : l.all f = false := by
  rw [List.all_eq_false]
  exact ⟨x, List.mem_of_getElem? hx, by rw [h]; decide⟩
theorem all_yes {α : Type} {l : List α} {f : α → Bool} (h : ∀ (k : Nat) x, l[k]? = some x → f x = true) : l.all f = true := by
  rw [List.all_eq_true]
  intro x hx
  obtain ⟨k, hk⟩ := List.mem_iff_getElem?.1 hx
  exact h k x hk
theorem pt_code {V : World} {g : Nat} {p : Pt} (h : V.heap[g]? = some (.cells p.cells 40)) : V.rangeAt g 1 [.int .u32 p.code.lo, .int .u32 p.code.hi, .bool p.code.x, .bool p.code.w] := range_of h (fun j v hv => by
  match j, hv with
  | 0, hv => exact hv
  | 1, hv => exact hv
  | 2, hv => exact hv
  | 3, hv => exact hv)
theorem pt_data {V : World} {g : Nat} {p : Pt} (h : V.heap[g]? = some (.cells p.cells 40)) : V.rangeAt g 5 [.int .u32 p.data.lo, .int .u32 p.data.hi, .bool p.data.x, .bool p.data.w] := range_of h (fun j v hv => by
  match j, hv with
  | 0, hv => exact hv
  | 1, hv => exact hv
  | 2, hv => exact hv
  | 3, hv => exact hv)
end Go.Proofs.Ytfjppgfnjjmkpaa
