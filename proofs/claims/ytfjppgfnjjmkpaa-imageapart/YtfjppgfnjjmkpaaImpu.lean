/-
  Of an image that may be no two regions share a byte: plain facts.
-/
import Derived.Test.YtfjppgfnjjmkpaaImhv
namespace Go.Proofs.Ytfjppgfnjjmkpaa
open Go.RowKit

def InB (r : Rg) (b : Int) : Prop := r.lo ≤ b ∧ b < r.hi
theorem meet_apart {s r : Rg} (h : meetB s r = false) {b : Int} (hs : InB s b) (hr : InB r b) : False := by
  obtain ⟨s1, s2⟩ := hs
  obtain ⟨r1, r2⟩ := hr
  unfold meetB at h
  rw [decide_eq_true (show s.lo < s.hi by omega), decide_eq_true (show r.lo < r.hi by omega), decide_eq_true (show s.lo < r.hi by omega), decide_eq_true (show r.lo < s.hi by omega)] at h
  cases h
/-- All that Check asks, where it answers 0. -/
structure May (i : Im) : Prop where
  words : imWordsV i = true
  stands : standsV i = true
  regs : regsV i = true
  keys : keysV i = true
theorem may_of {i : Im} (h : checkV i = 0) : May i := by
  unfold checkV at h
  cases h1 : imWordsV i
  · rw [h1] at h; cases h
  cases h2 : standsV i
  · rw [h1, h2] at h; cases h
  cases h3 : regsV i
  · rw [h1, h2, h3] at h; cases h
  cases h4 : rightsV i
  · rw [h1, h2, h3, h4] at h; cases h
  cases h5 : partsV i.ps
  · rw [h1, h2, h3, h4, h5] at h; cases h
  cases h6 : keysV i
  · rw [h1, h2, h3, h4, h5, h6] at h; cases h
  exact ⟨h1, h2, h3, h6⟩
theorem free_at {l : List Rg} {r s : Rg} (h : freeK l r = true) (hs : s ∈ l) : meetB s r = false := by
  unfold freeK at h
  have := List.all_eq_true.1 h s hs
  simpa using this
theorem regs_apart {i : Im} (h : regsV i = true) {j1 j2 : Nat} {s r : Rg} (hlt : j1 < j2) (hs : (regL i)[j1]? = some s) (hr : (regL i)[j2]? = some r) : meetB s r = false := by
  refine free_at (idx_at h hr) (List.mem_of_getElem? (i := j1) ?_)
  rw [List.getElem?_take, if_pos hlt]
  exact hs
def ownR (p : Pt) : List Rg := [p.code, p.data] ++ p.ks
/-- What is known of the region at a part's place j: it is the part's code or data, or one of its keys. -/
def Cls (i : Im) (k : Nat) (p : Pt) (j : Nat) (r : Rg) : Prop :=
  (j < 2 ∧ (regL i)[2 + 2 * k + j]? = some r) ∨ (2 ≤ j ∧ p.ks[j - 2]? = some r ∧ isKeyV r i.keys = true ∧ freeK ((i.ps.take k).flatMap (·.ks) ++ p.ks.take (j - 2)) r = true)
theorem cls_of {i : Im} (h : May i) {k j : Nat} {p : Pt} {r : Rg} (hp : i.ps[k]? = some p) (hr : (ownR p)[j]? = some r) : Cls i k p j r := by
  match j, hr with
  | 0, hr => cases hr; exact .inl ⟨by omega, reg_code hp⟩
  | 1, hr =>
    cases hr
    refine .inl ⟨by omega, ?_⟩
    rw [show 2 + 2 * k + 1 = 3 + 2 * k by omega]
    exact reg_data hp
  | j + 2, hr =>
    have hr2 : p.ks[j]? = some r := hr
    have h1 := idx_at h.keys hp
    unfold keysP at h1
    rw [Bool.and_eq_true] at h1
    have h2 := idx_at h1.2 hr2
    unfold keyV at h2
    rw [Bool.and_eq_true] at h2
    exact .inr ⟨by omega, hr2, h2.1, h2.2⟩
theorem key_in {i : Im} {r : Rg} (h : isKeyV r i.keys = true) {b : Int} (hb : InB r b) : InB i.keys b := by
  unfold isKeyV at h
  simp only [Bool.and_eq_true, decide_eq_true_eq] at h
  obtain ⟨⟨⟨h1, h2⟩, h3⟩, _⟩ := h
  obtain ⟨b1, b2⟩ := hb
  exact ⟨by omega, by omega⟩
theorem keys_at (i : Im) : (regL i)[1]? = some i.keys := rfl
theorem kern_at (i : Im) : (regL i)[0]? = some i.kern := rfl
theorem cls_apart {i : Im} (h : May i) {k k' j j' : Nat} {p p' : Pt} {r s : Rg} (hp' : i.ps[k']? = some p') (hlt : k' < k ∨ (k' = k ∧ p' = p ∧ j' < j)) (hs : Cls i k' p' j' s) (hr : Cls i k p j r) {b : Int} (bs : InB s b) (br : InB r b) : False := by
  rcases hs with ⟨s1, s2⟩ | ⟨s1, s2, s3, s4⟩
  · rcases hr with ⟨r1, r2⟩ | ⟨r1, r2, r3, r4⟩
    · exact meet_apart (regs_apart h.regs (by omega) s2 r2) bs br
    · exact meet_apart (regs_apart h.regs (show 1 < 2 + 2 * k' + j' by omega) (keys_at i) s2) (key_in r3 br) bs
  · rcases hr with ⟨r1, r2⟩ | ⟨r1, r2, r3, r4⟩
    · exact meet_apart (regs_apart h.regs (show 1 < 2 + 2 * k + j by omega) (keys_at i) r2) (key_in s3 bs) br
    · refine meet_apart (free_at r4 (List.mem_append.2 ?_)) bs br
      rcases hlt with hk | ⟨rfl, rfl, hj⟩
      · refine .inl (List.mem_flatMap.2 ⟨p', List.mem_of_getElem? (i := k') ?_, List.mem_of_getElem? s2⟩)
        rw [List.getElem?_take, if_pos hk]
        exact hp'
      · refine .inr (List.mem_of_getElem? (i := j' - 2) ?_)
        rw [List.getElem?_take, if_pos (by omega)]
        exact s2
theorem cls_kern {i : Im} (h : May i) {k j : Nat} {p : Pt} {r : Rg} (hr : Cls i k p j r) {b : Int} (bk : InB i.kern b) (br : InB r b) : False := by
  rcases hr with ⟨r1, r2⟩ | ⟨r1, r2, r3, r4⟩
  · exact meet_apart (regs_apart h.regs (show 0 < 2 + 2 * k + j by omega) (kern_at i) r2) bk br
  · exact meet_apart (regs_apart h.regs (show 0 < 1 by omega) (kern_at i) (keys_at i)) bk (key_in r3 br)
theorem stand_hi {i : Im} (h : May i) {j : Nat} {r : Rg} (hr : (regL i)[j]? = some r) : r.lo ≤ r.hi ∧ r.hi ≤ 4 * (i.wl : Int) := by
  have h1 := List.all_eq_true.1 h.stands r (List.mem_of_getElem? hr)
  unfold standB at h1
  simp only [Bool.and_eq_true, decide_eq_true_eq] at h1
  exact ⟨h1.1.2, h1.2⟩
theorem cls_hi {i : Im} (h : May i) {k j : Nat} {p : Pt} {r : Rg} (hr : Cls i k p j r) : r.lo ≤ r.hi ∧ r.hi ≤ 4 * (i.wl : Int) := by
  rcases hr with ⟨r1, r2⟩ | ⟨r1, r2, r3, r4⟩
  · exact stand_hi h r2
  · have := stand_hi h (keys_at i)
    unfold isKeyV at r3
    simp only [Bool.and_eq_true, decide_eq_true_eq] at r3
    obtain ⟨⟨⟨h1, h2⟩, h3⟩, _⟩ := r3
    exact ⟨h2, by omega⟩
/-- Who has a byte: parts ahead of k, the regions of part k ahead of j, the bytes of region j ahead of c. -/
structure Taken (i : Im) (k : Nat) (p : Pt) (j : Nat) (lo c : Int) (f : Nat → Int) : Prop where
  is : ∀ b : Nat, f b ≠ 0 → (∃ (k' : Nat) (p' : Pt) (j' : Nat) (s : Rg), k' < k ∧ i.ps[k']? = some p' ∧ (ownR p')[j']? = some s ∧ InB s b) ∨ (∃ (j' : Nat) (s : Rg), j' < j ∧ (ownR p)[j']? = some s ∧ InB s b) ∨ (lo ≤ (b : Int) ∧ (b : Int) < c)
theorem Taken.free {i : Im} (h : May i) {k j : Nat} {p : Pt} {r : Rg} {c : Nat} {f : Nat → Int} (ht : Taken i k p j r.lo c f) (hp : i.ps[k]? = some p) (hr : (ownR p)[j]? = some r) (h0 : r.lo ≤ (c : Int)) (h1 : (c : Int) < r.hi) : f c = 0 := by
  refine Classical.byContradiction fun hn => ?_
  have cr := cls_of h hp hr
  rcases ht.is c hn with ⟨k', p', j', s, e1, e2, e3, e4⟩ | ⟨j', s, e1, e3, e4⟩ | ⟨_, e⟩
  · exact cls_apart h e2 (.inl e1) (cls_of h e2 e3) cr e4 ⟨h0, h1⟩
  · exact cls_apart h hp (.inr ⟨rfl, rfl, e1⟩) (cls_of h hp e3) cr e4 ⟨h0, h1⟩
  · omega
theorem Taken.put {i : Im} {k j : Nat} {p : Pt} {lo : Int} {c : Nat} {f : Nat → Int} {x : Int} (ht : Taken i k p j lo c f) (h0 : lo ≤ (c : Int)) : Taken i k p j lo ((c : Int) + 1) (fun b => if b = c then x else f b) := by
  refine ⟨fun b hb => ?_⟩
  by_cases e : b = c
  · subst e
    exact .inr (.inr ⟨h0, by omega⟩)
  · simp only [if_neg e] at hb
    rcases ht.is b hb with h | h | ⟨h1, h2⟩
    · exact .inl h
    · exact .inr (.inl h)
    · exact .inr (.inr ⟨h1, by omega⟩)
theorem Taken.next {i : Im} {k j : Nat} {p : Pt} {r : Rg} {c : Int} {f : Nat → Int} (ht : Taken i k p j r.lo c f) (hr : (ownR p)[j]? = some r) (hc : c ≤ r.hi ∨ c ≤ r.lo) (lo : Int) : Taken i k p (j + 1) lo lo f := by
  refine ⟨fun b hb => ?_⟩
  rcases ht.is b hb with h | ⟨j', s, e1, e2, e3⟩ | ⟨h1, h2⟩
  · exact .inl h
  · exact .inr (.inl ⟨j', s, by omega, e2, e3⟩)
  · exact .inr (.inl ⟨j, r, by omega, hr, ⟨h1, by omega⟩⟩)
theorem Taken.lo {i : Im} {k j : Nat} {p : Pt} {l : Int} {f : Nat → Int} (ht : Taken i k p j l l f) (l' : Int) : Taken i k p j l' l' f := by
  refine ⟨fun b hb => ?_⟩
  rcases ht.is b hb with h | h | ⟨h1, h2⟩
  · exact .inl h
  · exact .inr (.inl h)
  · omega
theorem Taken.part {i : Im} {k j : Nat} {p : Pt} {l : Int} {f : Nat → Int} (ht : Taken i k p j l l f) (hp : i.ps[k]? = some p) (p2 : Pt) (l' : Int) : Taken i (k + 1) p2 0 l' l' f := by
  refine ⟨fun b hb => ?_⟩
  rcases ht.is b hb with ⟨k', p', j', s, e1, e2, e3, e4⟩ | ⟨j', s, e1, e3, e4⟩ | ⟨h1, h2⟩
  · exact .inl ⟨k', p', j', s, by omega, e2, e3, e4⟩
  · exact .inl ⟨k, p, j', s, by omega, hp, e3, e4⟩
  · omega
theorem Taken.other {i : Im} {k : Nat} {p : Pt} {l : Int} {f : Nat → Int} (ht : Taken i k p 0 l l f) (p2 : Pt) (l' : Int) : Taken i k p2 0 l' l' f := by
  refine ⟨fun b hb => ?_⟩
  rcases ht.is b hb with h | ⟨j', s, e1, e3, e4⟩ | ⟨h1, h2⟩
  · exact .inl h
  · omega
  · omega
theorem Taken.kern {i : Im} (h : May i) {k : Nat} {p : Pt} {l : Int} {f : Nat → Int} (ht : Taken i k p 0 l l f) {b : Nat} (hb : InB i.kern b) : f b = 0 := by
  refine Classical.byContradiction fun hn => ?_
  rcases ht.is b hn with ⟨k', p', j', s, e1, e2, e3, e4⟩ | ⟨j', s, e1, e3, e4⟩ | ⟨h1, h2⟩
  · exact cls_kern h (cls_of h e2 e3) hb e4
  · omega
  · omega
end Go.Proofs.Ytfjppgfnjjmkpaa
