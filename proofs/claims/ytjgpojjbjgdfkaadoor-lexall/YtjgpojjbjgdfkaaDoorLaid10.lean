/-
  What the rows list: the cell of strconv.ErrRange holds an interface.
-/
import Derived.Test.YtjgpojjbjgdfkaaDoorRows
import Derived.LaidMore
import Derived.Lay
import Derived.ChangeArms
import Derived.WalkKit
namespace Go.Proofs.YtjgpojjbjgdfkaaDoor
open Go.RowKit

theorem trod_iface {H : Type} {enc : TypeId × Value → H} {P : Program} {w : World} {base : Nat} {spare : Nat → Bool} {held : Bool} {fuel : Nat} {t : TypeId} {cs : List Value} {x : DataW H × List MemPlace} {m : _} (ht : P.underlying t = some (.interface m)) (h : DataW.trod enc P w base spare held fuel t cs = some x) : cs = [.nilIface] ∨ ∃ u v, cs = [.iface u v] := by
  cases fuel with
  | zero => simp [DataW.trod] at h
  | succ n =>
    unfold DataW.trod at h
    rw [ht] at h
    split at h <;> simp_all
theorem laid_mem {P : Program} {w : World} : ∀ (l : List (String × DataW Unit)) (ps : List MemPlace), DataW.LaidVars P w l ps → ∀ n d, (n, d) ∈ l →
    ∃ g t cs fuel p, P.globalNamed n = some g ∧ (P.globals[g]?).map (·.type) = some t ∧ w.var? P n = some cs ∧ DataW.trod (fun _ => ()) P w 0 (fun _ => true) false fuel t cs.toList = some (d, p)
  | [], _, _, n, d, h => by cases h
  | (n', d') :: r, ps, hl, n, d, h => by
    obtain ⟨g, t, cs, fuel, p, q, h1, h2, h3, h4, h5, _⟩ := hl
    rcases List.mem_cons.1 h with e | e
    · cases e
      exact ⟨g, t, cs, fuel, p, h1, h2, h3, h4⟩
    · exact laid_mem r q h5 n d e
theorem laid_ev {l : List (String × DataW Unit)} {W : World} (hp : (l.all fun x => x.2.handleName?.isNone) = true) (hm : ("strconv.ErrRange", Rows.laid_strconv_ErrRange) ∈ l) (h : laidMetH Tryd.prog l W) : ∃ ev, W.cell? ⟨1, 0, none⟩ = some ev ∧ (ev = .nilIface ∨ ∃ te pe, ev = .iface te pe) := by
  rw [MakeChecks.laidMetH_plain _ _ _ hp] at h
  obtain ⟨ps, hl, _, _⟩ := h
  obtain ⟨g, t, cs, fuel, p, hg, ht, hv, hd⟩ := laid_mem l ps hl _ _ hm
  obtain rfl := Option.some.inj ((show Tryd.prog.globalNamed "strconv.ErrRange" = some 1 by kernel_rfl).symm.trans hg)
  obtain rfl := Option.some.inj ((show (Tryd.prog.globals[1]?).map (·.type) = some 58 by kernel_rfl).symm.trans ht)
  have hc := World.var?_cell hg hv 0
  rcases trod_iface Tryd.underlying58 hd with e | ⟨u, v, e⟩
  · rw [show cs[0]? = some .nilIface by rw [← Array.getElem?_toList, e]; rfl] at hc
    exact ⟨_, hc, Or.inl rfl⟩
  · rw [show cs[0]? = some (.iface u v) by rw [← Array.getElem?_toList, e]; rfl] at hc
    exact ⟨_, hc, Or.inr ⟨u, v, rfl⟩⟩
theorem laid10 {W : World} (h : laidMetH Tryd.prog Rows.lexAllRow.laid W) : ∃ ev, W.cell? ⟨1, 0, none⟩ = some ev ∧ (ev = .nilIface ∨ ∃ te pe, ev = .iface te pe) :=
  laid_ev (l := Rows.lexAllRow.laid) (by kernel_rfl) (.tail _ (.tail _ (.tail _ (.head _)))) h
end Go.Proofs.YtjgpojjbjgdfkaaDoor
