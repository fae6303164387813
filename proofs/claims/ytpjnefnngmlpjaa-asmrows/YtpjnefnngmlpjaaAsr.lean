/-
  Package asm: item, of what is no branch, no jump and no address; write of such.
-/
import Derived.Test.YtpjnefnngmlpjaaAsp
import Derived.Test.YtpjnefnngmlpjaaAsq
namespace Go.Proofs.Ytpjnefnngmlpjaa
open Go.RowKit

def plainIt (x : It) : Prop := x.kind = 1 ∨ x.kind = 2 ∨ x.kind = 5 ∨ x.kind = 7 ∨ x.kind = 8
def itemW (x : It) (ks : List Int) : List Int :=
  if x.kind = 2 then [putN x.ins] else if x.kind = 5 then loadW x.d x.n else if x.kind = 7 then ks else if x.kind = 8 then List.replicate x.n.toNat 0 else []
def itemS (base : Int) (xs : List It) (k : Nat) (x : It) : List (ByteArray × Int) := if x.kind = 1 then [(x.name, addrV base (sumV xs k))] else []
theorem itemW_len {x : It} {ks : List Int} (ho : ItOk x) (hp : plainIt x) (hk : x.kind = 7 → x.wl = ks.length) : ((itemW x ks).length : Int) = sizeV x := by
  have h0 := ho.n.1
  unfold itemW sizeV
  rcases hp with e | e | e | e | e
  · simp [e]
  · simp [e]
  · simp only [e, loadW, longW]
    cases shortV x.n <;> simp
  · have := hk e
    simp [e, this]
  · simp [e]
    omega
theorem itemS_len (base : Int) (xs : List It) (k : Nat) (x : It) : (itemS base xs k x).length ≤ 1 := by
  unfold itemS
  split <;> simp
theorem aItem {w : World} {wb pb gb B n b off : Nat} {sa : Option Addr} {cap g gf : Nat} {base : Int} {xs : List It} {wv sv : Value} {ws : List Int} {ss : List (ByteArray × Int)} (hp : ProgAt w pb b off sa cap g gf base xs) (hl : xs.length ≤ 1000000) (h : WrAt w wb pb gb B n (sumV xs) wv sv ws ss) (hw : ws.length < 1000000000) (hs : ss.length < 1000000000) (k : Nat) (x : It) (hx : xs[k]? = some x) (ho : ItOk x) (hpl : plainIt x) (ks : List Int) (hks : x.kind = 7 → WordsAt w x.wa x.wl x.wc ks) (hz : sizeV x ≤ 1000000000) (hkn : k < n) (hlab : x.kind = 1 → labF xs xs.length x.name = some (k : Int)) :
    Calls Try.prog 55 #[.pointer (some ⟨wb, 0, none⟩), .int .i64 k] w fun e w' => e = .returned (.tuple #[]) ∧ ∃ wv' sv', WrAt w' wb pb gb B n (sumV xs) wv' sv' (ws ++ itemW x ks) (ss ++ itemS base xs k x) ∧ Low wb w w' := by
  rcases hpl with e | e | e | e | e
  · refine (aItemLabel hp hl h hs k x hx e hkn ho.nm (hlab e)).mono ?_
    rintro r w' ⟨h1, v, h2, h3⟩
    refine ⟨h1, wv, v, ?_, h3⟩
    have a1 : itemW x ks = [] := by simp [itemW, e]
    have a2 : itemS base xs k x = [(x.name, addrV base (sumV xs k))] := by simp [itemS, e]
    rw [a1, a2, List.append_nil]
    exact h2
  · refine (aItemIns hp hl h hw k x hx e).mono ?_
    rintro r w' ⟨h1, v, h2, h3⟩
    refine ⟨h1, v, sv, ?_, h3⟩
    have a1 : itemW x ks = [putN x.ins] := by simp [itemW, e]
    have a2 : itemS base xs k x = [] := by simp [itemS, e]
    rw [a1, a2, List.append_nil]
    exact h2
  · refine (aItemLoad hp hl h hw k x hx e ho.n).mono ?_
    rintro r w' ⟨h1, v, h2, h3⟩
    refine ⟨h1, v, sv, ?_, h3⟩
    have a1 : itemW x ks = loadW x.d x.n := by simp [itemW, e]
    have a2 : itemS base xs k x = [] := by simp [itemS, e]
    rw [a1, a2, List.append_nil]
    exact h2
  · have hk := hks e
    refine (aItemWords hp hl h hw k x hx e ks hk (by have := ho.wl; have := hk.1; omega)).mono ?_
    rintro r w' ⟨h1, v, h2, h3⟩
    refine ⟨h1, v, sv, ?_, h3⟩
    have a1 : itemW x ks = ks := by simp [itemW, e]
    have a2 : itemS base xs k x = [] := by simp [itemS, e]
    rw [a1, a2, List.append_nil]
    exact h2
  · have hn0 := ho.n.1
    have hzn : sizeV x = x.n := by simp [sizeV, e]
    refine (aItemSpace hp hl h hw k x hx e x.n.toNat (by omega) (by omega)).mono ?_
    rintro r w' ⟨h1, v, h2, h3⟩
    refine ⟨h1, v, sv, ?_, h3⟩
    have a1 : itemW x ks = List.replicate x.n.toNat 0 := by simp [itemW, e]
    have a2 : itemS base xs k x = [] := by simp [itemS, e]
    rw [a1, a2, List.append_nil]
    exact h2
def outW (xs : List It) (wf : Nat → List Int) : Nat → List Int
  | 0 => []
  | k + 1 => outW xs wf k ++ (match xs[k]? with | some x => itemW x (wf k) | none => [])
def outS (base : Int) (xs : List It) : Nat → List (ByteArray × Int)
  | 0 => []
  | k + 1 => outS base xs k ++ (match xs[k]? with | some x => itemS base xs k x | none => [])
theorem outW_next {xs : List It} {wf : Nat → List Int} {k : Nat} {x : It} (hx : xs[k]? = some x) : outW xs wf (k + 1) = outW xs wf k ++ itemW x (wf k) := by
  show outW xs wf k ++ (match xs[k]? with | some x => itemW x (wf k) | none => []) = _
  rw [hx]
theorem outS_next {base : Int} {xs : List It} {k : Nat} {x : It} (hx : xs[k]? = some x) : outS base xs (k + 1) = outS base xs k ++ itemS base xs k x := by
  show outS base xs k ++ (match xs[k]? with | some x => itemS base xs k x | none => []) = _
  rw [hx]
theorem outS_len (base : Int) (xs : List It) : ∀ k, (outS base xs k).length ≤ k
  | 0 => Nat.le_refl _
  | k + 1 => by
    have h := outS_len base xs k
    cases hx : xs[k]? with
    | none =>
      have : outS base xs (k + 1) = outS base xs k ++ [] := by
        show outS base xs k ++ (match xs[k]? with | some x => itemS base xs k x | none => []) = _
        rw [hx]
      rw [this, List.append_nil]
      omega
    | some x =>
      have := itemS_len base xs k x
      rw [outS_next hx, List.length_append]
      omega
theorem outW_len {xs : List It} {wf : Nat → List Int} (ho : ∀ x ∈ xs, ItOk x) (hp : ∀ x ∈ xs, plainIt x) (hk : ∀ k x, xs[k]? = some x → x.kind = 7 → x.wl = (wf k).length) : ∀ k, ((outW xs wf k).length : Int) = sumV xs k
  | 0 => rfl
  | k + 1 => by
    have h := outW_len ho hp hk k
    cases hx : xs[k]? with
    | none =>
      have e1 : outW xs wf (k + 1) = outW xs wf k ++ [] := by
        show outW xs wf k ++ (match xs[k]? with | some x => itemW x (wf k) | none => []) = _
        rw [hx]
      have e2 : sumV xs (k + 1) = sumV xs k + 0 := by
        show sumV xs k + (match xs[k]? with | some x => sizeV x | none => 0) = _
        rw [hx]
      rw [e1, e2, List.append_nil]
      omega
    | some x =>
      have hm := List.mem_of_getElem? hx
      have := itemW_len (ks := wf k) (ho x hm) (hp x hm) (hk k x hx)
      rw [outW_next hx, sumV_next hx, List.length_append]
      omega
end Go.Proofs.Ytpjnefnngmlpjaa
