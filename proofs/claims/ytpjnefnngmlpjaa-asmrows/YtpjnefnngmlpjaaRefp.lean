/-
  The words of instructions, by the document: the contract of the function that tells them.
-/
import Derived.Test.YtpjnefnngmlpjaaRefm
import Derived.Deep.QuietTactic
import Derived.BigQuiet
import Derived.StillTailTactics
namespace Go.Proofs.Ytpjnefnngmlpjaa
open Go.RowKit

theorem bcell {W w1 : World} (hb : Below W.heap.size W w1) : (∀ b o, b < W.heap.size → w1.cell? ⟨b, o, none⟩ = W.cell? ⟨b, o, none⟩) ∧ (∀ b o, b < W.heap.size → w1.frozen? ⟨b, o, none⟩ = W.frozen? ⟨b, o, none⟩) :=
  ⟨fun b o h => hb.cell (p := ⟨b, o, none⟩) h, fun b o h => hb.frozen (p := ⟨b, o, none⟩) h⟩
theorem below2 {w w1 : World} {x y : Obj} (hb : Below ((w.alloc x).alloc y).heap.size ((w.alloc x).alloc y) w1) : Below w.heap.size w w1 :=
  (((Below.refl _ _).alloc (Nat.le_refl _) _).alloc (by simp) _).trans (hb.mono (by simp; omega))
theorem put_world {w w1 : World} {s : ByteArray} {d a b m k o g f : Int}
    (hb : Below ((w.alloc (.cells #[.string s, .int .i64 d, .int .i64 a, .int .i64 b, .int .i32 m] 31)).alloc (.cells #[.int .u32 0, .int .i64 0] 55)).heap.size ((w.alloc (.cells #[.string s, .int .i64 d, .int .i64 a, .int .i64 b, .int .i32 m] 31)).alloc (.cells #[.int .u32 0, .int .i64 0] 55)) w1) :
    let W := (w1.alloc (.cells #[.int .u8 k, .int .u32 o, .int .u32 g, .int .u32 f] 132)).alloc (.cells #[.int .u8 k, .int .u32 o, .int .u32 g, .int .u32 f] 132)
    W.cell? ⟨w.heap.size, 0, none⟩ = some (.string s) ∧ W.cell? ⟨w.heap.size, 1, none⟩ = some (.int .i64 d) ∧ W.cell? ⟨w.heap.size, 2, none⟩ = some (.int .i64 a) ∧ W.cell? ⟨w.heap.size, 3, none⟩ = some (.int .i64 b) ∧ W.cell? ⟨w.heap.size, 4, none⟩ = some (.int .i32 m) ∧
    W.cell? ⟨w.heap.size + 1, 0, none⟩ = some (.int .u32 0) ∧ W.cell? ⟨w.heap.size + 1, 1, none⟩ = some (.int .i64 0) ∧ W.frozen? ⟨w.heap.size + 1, 0, none⟩ = false ∧ W.frozen? ⟨w.heap.size + 1, 1, none⟩ = false ∧
    W.cell? ⟨w1.heap.size + 1, 0, none⟩ = some (.int .u8 k) ∧ W.cell? ⟨w1.heap.size + 1, 1, none⟩ = some (.int .u32 o) ∧ W.cell? ⟨w1.heap.size + 1, 2, none⟩ = some (.int .u32 g) ∧ W.cell? ⟨w1.heap.size + 1, 3, none⟩ = some (.int .u32 f) ∧
    Below w.heap.size w W := by
  intro W
  have hz := hb.size
  simp at hz
  have C : ∀ (B i : Nat) (v : Value), B < w.heap.size + 2 → ((w.alloc (.cells #[.string s, .int .i64 d, .int .i64 a, .int .i64 b, .int .i32 m] 31)).alloc (.cells #[.int .u32 0, .int .i64 0] 55)).cell? ⟨B, i, none⟩ = some v → W.cell? ⟨B, i, none⟩ = some v := by
    intro B i v h hv
    show ((w1.alloc _).alloc _).cell? _ = _
    rw [World.cell?_alloc_lt _ _ _ (by simp; omega), World.cell?_alloc_lt _ _ _ (by simp; omega), hb.cell (p := ⟨B, i, none⟩) (by simp; omega)]
    exact hv
  have Fz : ∀ (i : Nat), W.frozen? ⟨w.heap.size + 1, i, none⟩ = false := by
    intro i
    show ((w1.alloc _).alloc _).frozen? _ = _
    rw [frozen?_alloc_cells, frozen?_alloc_cells, hb.frozen (p := ⟨w.heap.size + 1, i, none⟩) (by simp), frozen?_alloc_cells, frozen?_alloc_cells]
    simp [World.frozen?]
  refine ⟨C _ _ _ (by omega) (by simp [go_sem]), C _ _ _ (by omega) (by simp [go_sem]), C _ _ _ (by omega) (by simp [go_sem]), C _ _ _ (by omega) (by simp [go_sem]), C _ _ _ (by omega) (by simp [go_sem]), C _ _ _ (by omega) (by simp [go_sem]), C _ _ _ (by omega) (by simp [go_sem]), Fz 0, Fz 1, by simp [W, go_sem], by simp [W, go_sem], by simp [W, go_sem], by simp [W, go_sem], ?_⟩
  exact ((below2 hb).alloc (by omega) _).alloc (by simp; omega) _
theorem got_put {x y e f : Int} (h : x = y) (h' : e = f) : Ending.returned (.agg #[.int .u32 x, .int .i64 e]) = .returned (.agg #[.int .u32 y, .int .i64 f]) := by rw [h, h']

set_option maxRecDepth 100000 in
set_option maxHeartbeats 2000000 in
theorem put_not (s : ByteArray) (d a b m : Int) (hm : mayV ⟨s.toList, d, a, b, m⟩ = false) (w : World) :
    Calls Try.prog 41 #[.agg #[.string s, .int .i64 d, .int .i64 a, .int .i64 b, .int .i32 m]] w fun e w' => e = .returned (.agg #[.int .u32 0, .int .i64 1]) ∧ Below w.heap.size w w' := by
  have HM : Hid (∀ w, Calls Try.prog 69 #[.agg #[.string s, .int .i64 d, .int .i64 a, .int .i64 b, .int .i32 m]] w fun e w' => e = .returned (.bool false) ∧ Below w.heap.size w w') := by
    intro w
    have h := rMay s d a b m w
    rw [hm] at h
    exact h
  clear hm
  go_enter Try.func41, Try.ntmps41
  go_wp2_with fail
  refine (HM _).mono ?_
  rintro e w1 ⟨rfl, hb⟩
  obtain ⟨hc, hf⟩ := bcell hb
  have hz := hb.size
  simp at hz
  go_wp2_with fail
  apply bodyPost_ret (hd := rfl)
  focus (simp [results, Try.results41, go_sem, hc]; rfl)
  exact ⟨rfl, ((below2 hb).setCell (by simp) _).setCell (by simp) _⟩

theorem below_drewN (B : Nat) (W : World) (n : Nat) : Below B W (W.drewN n) := ⟨rfl, rfl, rfl, Nat.le_refl _, fun _ _ => rfl⟩
theorem region_tail {P : Program} {id : Nat} {Q : Exit → Act → World → Prop} {a : Act} {w : World} {l : List Oper} (n : Nat) (hm : P.follows .mixedOrders = true) (hB : Region.lexTailB .any l.toArray n = true)
    (h : wpStill P l.toArray w.drew (fun a' => wpList P l.toArray Q (l.drop n) a' w.drew) (l.take n) a) : (Code.region id l.toArray true).wp P Q a w := wp_region_still_tail n hm hB h
theorem or_R {f b a g d o : Int} (hf : 0 ≤ f ∧ f < 128) (hb : 0 ≤ b ∧ b < 32) (ha : 0 ≤ a ∧ a < 32) (hg : 0 ≤ g ∧ g < 8) (hd : 0 ≤ d ∧ d < 32) (ho : 0 ≤ o ∧ o < 128) :
    bits .or .u32 (bits .or .u32 (bits .or .u32 (bits .or .u32 (bits .or .u32 (f * 33554432) (b * 1048576)) (a * 32768)) (g * 4096)) (d * 128)) o = f * 33554432 + b * 1048576 + a * 32768 + g * 4096 + d * 128 + o := by
  have e1 := or_add (x := f * 33554432) (y := b * 1048576) 25 (by omega) ⟨by omega, by omega⟩ (by omega) (by omega) (by omega)
  have e2 := or_add (x := f * 33554432 + b * 1048576) (y := a * 32768) 20 (by omega) ⟨by omega, by omega⟩ (by omega) (by omega) (by omega)
  have e3 := or_add (x := f * 33554432 + b * 1048576 + a * 32768) (y := g * 4096) 15 (by omega) ⟨by omega, by omega⟩ (by omega) (by omega) (by omega)
  have e4 := or_add (x := f * 33554432 + b * 1048576 + a * 32768 + g * 4096) (y := d * 128) 12 (by omega) ⟨by omega, by omega⟩ (by omega) (by omega) (by omega)
  have e5 := or_add (x := f * 33554432 + b * 1048576 + a * 32768 + g * 4096 + d * 128) (y := o) 7 (by omega) ⟨by omega, by omega⟩ (by omega) (by omega) (by omega)
  rw [e1, e2, e3, e4, e5]
theorem or_I {q a g d o : Int} (hq : 0 ≤ q ∧ q < 4096) (ha : 0 ≤ a ∧ a < 32) (hg : 0 ≤ g ∧ g < 8) (hd : 0 ≤ d ∧ d < 32) (ho : 0 ≤ o ∧ o < 128) :
    bits .or .u32 (bits .or .u32 (bits .or .u32 (bits .or .u32 (q * 1048576) (a * 32768)) (g * 4096)) (d * 128)) (o) = q * 1048576 + a * 32768 + g * 4096 + d * 128 + o := by
  have e0 := or_add (x := q * 1048576) (y := a * 32768) 20 (by omega) ⟨by omega, by omega⟩ (by omega) (by omega) (by omega)
  have e1 := or_add (x := q * 1048576 + a * 32768) (y := g * 4096) 15 (by omega) ⟨by omega, by omega⟩ (by omega) (by omega) (by omega)
  have e2 := or_add (x := q * 1048576 + a * 32768 + g * 4096) (y := d * 128) 12 (by omega) ⟨by omega, by omega⟩ (by omega) (by omega) (by omega)
  have e3 := or_add (x := q * 1048576 + a * 32768 + g * 4096 + d * 128) (y := o) 7 (by omega) ⟨by omega, by omega⟩ (by omega) (by omega) (by omega)
  rw [e0, e1, e2, e3]
theorem or_B {t v b a g w u o : Int} (ht : 0 ≤ t ∧ t < 2) (hv : 0 ≤ v ∧ v < 64) (hb : 0 ≤ b ∧ b < 32) (ha : 0 ≤ a ∧ a < 32) (hg : 0 ≤ g ∧ g < 8) (hw : 0 ≤ w ∧ w < 16) (hu : 0 ≤ u ∧ u < 2) (ho : 0 ≤ o ∧ o < 128) :
    bits .or .u32 (bits .or .u32 (bits .or .u32 (bits .or .u32 (bits .or .u32 (bits .or .u32 (bits .or .u32 (t * 2147483648) (v * 33554432)) (b * 1048576)) (a * 32768)) (g * 4096)) (w * 256)) (u * 128)) (o) = t * 2147483648 + v * 33554432 + b * 1048576 + a * 32768 + g * 4096 + w * 256 + u * 128 + o := by
  have e0 := or_add (x := t * 2147483648) (y := v * 33554432) 31 (by omega) ⟨by omega, by omega⟩ (by omega) (by omega) (by omega)
  have e1 := or_add (x := t * 2147483648 + v * 33554432) (y := b * 1048576) 25 (by omega) ⟨by omega, by omega⟩ (by omega) (by omega) (by omega)
  have e2 := or_add (x := t * 2147483648 + v * 33554432 + b * 1048576) (y := a * 32768) 20 (by omega) ⟨by omega, by omega⟩ (by omega) (by omega) (by omega)
  have e3 := or_add (x := t * 2147483648 + v * 33554432 + b * 1048576 + a * 32768) (y := g * 4096) 15 (by omega) ⟨by omega, by omega⟩ (by omega) (by omega) (by omega)
  have e4 := or_add (x := t * 2147483648 + v * 33554432 + b * 1048576 + a * 32768 + g * 4096) (y := w * 256) 12 (by omega) ⟨by omega, by omega⟩ (by omega) (by omega) (by omega)
  have e5 := or_add (x := t * 2147483648 + v * 33554432 + b * 1048576 + a * 32768 + g * 4096 + w * 256) (y := u * 128) 8 (by omega) ⟨by omega, by omega⟩ (by omega) (by omega) (by omega)
  have e6 := or_add (x := t * 2147483648 + v * 33554432 + b * 1048576 + a * 32768 + g * 4096 + w * 256 + u * 128) (y := o) 7 (by omega) ⟨by omega, by omega⟩ (by omega) (by omega) (by omega)
  rw [e0, e1, e2, e3, e4, e5, e6]
theorem or_U {q d o : Int} (hq : 0 ≤ q ∧ q < 1048576) (hd : 0 ≤ d ∧ d < 32) (ho : 0 ≤ o ∧ o < 128) :
    bits .or .u32 (bits .or .u32 (q * 4096) (d * 128)) (o) = q * 4096 + d * 128 + o := by
  have e0 := or_add (x := q * 4096) (y := d * 128) 12 (by omega) ⟨by omega, by omega⟩ (by omega) (by omega) (by omega)
  have e1 := or_add (x := q * 4096 + d * 128) (y := o) 7 (by omega) ⟨by omega, by omega⟩ (by omega) (by omega) (by omega)
  rw [e0, e1]
theorem or_J {t v u w d o : Int} (ht : 0 ≤ t ∧ t < 2) (hv : 0 ≤ v ∧ v < 1024) (hu : 0 ≤ u ∧ u < 2) (hw : 0 ≤ w ∧ w < 256) (hd : 0 ≤ d ∧ d < 32) (ho : 0 ≤ o ∧ o < 128) :
    bits .or .u32 (bits .or .u32 (bits .or .u32 (bits .or .u32 (bits .or .u32 (t * 2147483648) (v * 2097152)) (u * 1048576)) (w * 4096)) (d * 128)) (o) = t * 2147483648 + v * 2097152 + u * 1048576 + w * 4096 + d * 128 + o := by
  have e0 := or_add (x := t * 2147483648) (y := v * 2097152) 31 (by omega) ⟨by omega, by omega⟩ (by omega) (by omega) (by omega)
  have e1 := or_add (x := t * 2147483648 + v * 2097152) (y := u * 1048576) 21 (by omega) ⟨by omega, by omega⟩ (by omega) (by omega) (by omega)
  have e2 := or_add (x := t * 2147483648 + v * 2097152 + u * 1048576) (y := w * 4096) 20 (by omega) ⟨by omega, by omega⟩ (by omega) (by omega) (by omega)
  have e3 := or_add (x := t * 2147483648 + v * 2097152 + u * 1048576 + w * 4096) (y := d * 128) 12 (by omega) ⟨by omega, by omega⟩ (by omega) (by omega) (by omega)
  have e4 := or_add (x := t * 2147483648 + v * 2097152 + u * 1048576 + w * 4096 + d * 128) (y := o) 7 (by omega) ⟨by omega, by omega⟩ (by omega) (by omega) (by omega)
  rw [e0, e1, e2, e3, e4]

set_option maxRecDepth 100000 in
set_option maxHeartbeats 2000000 in
theorem put_82 (s : ByteArray) (d a b m o g f : Int) (hm : mayV ⟨s.toList, d, a, b, m⟩ = true) (hp : formV s.toList = ⟨82, o, g, f⟩) (hk : goodF ⟨82, o, g, f⟩) (w : World) :
    Calls Try.prog 41 #[.agg #[.string s, .int .i64 d, .int .i64 a, .int .i64 b, .int .i32 m]] w fun e w' => e = .returned (.agg #[.int .u32 (putV ⟨s.toList, d, a, b, m⟩), .int .i64 0]) ∧ Below w.heap.size w w' := by
  have HM : Hid (∀ w, Calls Try.prog 69 #[.agg #[.string s, .int .i64 d, .int .i64 a, .int .i64 b, .int .i32 m]] w fun e w' => e = .returned (.bool true) ∧ Below w.heap.size w w') := by
    intro w
    have h := rMay s d a b m w
    rw [hm] at h
    exact h
  have HF : Hid (∀ w, Calls Try.prog 70 #[.string s] w fun e w' => e = .returned (.agg #[.int .u8 82, .int .u32 o, .int .u32 g, .int .u32 f]) ∧ w' = w.alloc (.cells #[.int .u8 82, .int .u32 o, .int .u32 g, .int .u32 f] 132)) := rform' s 82 o g f hp
  have HR : Hid (regV d = true ∧ regV a = true ∧ regV b = true) := by
    have h := hm
    simp [mayV, mayF] at h
    exact ⟨h.1.1.1, h.1.1.2, h.1.2⟩
  have rd := (regV_iff d).mp HR.out.1
  have ra := (regV_iff a).mp HR.out.2.1
  have rb := (regV_iff b).mp HR.out.2.2
  have ud : IntKind.u32.wrap d = d := by rw [IntKind.wrap_u32']; omega
  have ua : IntKind.u32.wrap a = a := by rw [IntKind.wrap_u32']; omega
  have ub : IntKind.u32.wrap b = b := by rw [IntKind.wrap_u32']; omega
  have um := IntKind.wrap_u32' m
  have Hm : Hid (U32 (m % 4294967296)) := ⟨by omega, by omega⟩
  generalize hM : m % 4294967296 = M at *
  have HMM : Hid (m % 4294967296 = M) := hM
  have HH : Hid (mayV ⟨s.toList, d, a, b, m⟩ = true) := hm
  have HP : Hid (formV s.toList = ⟨82, o, g, f⟩) := hp
  unfold goodF at hk
  simp at hk
  obtain ⟨o0, o1, g0, g1, f0, f1⟩ := hk
  obtain ⟨d0, d1⟩ := rd
  obtain ⟨a0, a1⟩ := ra
  obtain ⟨b0, b1⟩ := rb
  have M0 : 0 ≤ M := by omega
  have M1 : M < 4294967296 := by omega
  clear hm hp hM
  go_enter Try.func41, Try.ntmps41
  go_wp2_with fail
  refine (HM _).mono ?_
  rintro e w1 ⟨rfl, hb⟩
  obtain ⟨hc, hf⟩ := bcell hb
  have hz := hb.size
  simp at hz
  go_wp2_with fail
  refine (HF _).mono ?_
  rintro e w' ⟨rfl, rfl⟩
  go_wp2_with fail
  obtain ⟨k0, k1, k2, k3, k4, q0, q1, z0, z1, f0', f1', f2', f3', bW⟩ := put_world (k := 82) (o := o) (g := g) (f := f) hb
  have HB : Hid _ := bW
  generalize (w1.alloc (.cells #[.int .u8 82, .int .u32 o, .int .u32 g, .int .u32 f] 132)).alloc (.cells #[.int .u8 82, .int .u32 o, .int .u32 g, .int .u32 f] 132) = W at *
  generalize hgf : w1.heap.size + 1 = G at *
  clear hb hc hf hz bW hgf
  go_quiet (fail)
  go_wp2_with (go_at_call 56; refine (rBits _ _ _ Hm _).mono ?_; rintro e w' ⟨rfl, rfl⟩)
  apply bodyPost_ret (hd := rfl)
  focus (simp [results, Try.results41, go_sem, q0, q1]; rfl)
  refine ⟨got_put ?_ rfl, ?_⟩
  · have e : putV ⟨s.toList, d, a, b, m⟩ = putF ⟨82, o, g, f⟩ d a b m := by unfold putV; rw [HP.out]
    rw [e]
    simp only [putF]
    exact or_R ⟨f0, f1⟩ ⟨b0, b1⟩ ⟨a0, a1⟩ ⟨g0, g1⟩ ⟨d0, d1⟩ ⟨o0, o1⟩
  · exact (((HB.out.trans (below_drewN _ _ _)).setCell (by simp) _).setCell (by simp) _)

set_option maxRecDepth 100000 in
set_option maxHeartbeats 2000000 in
theorem put_73 (s : ByteArray) (d a b m o g f : Int) (hm : mayV ⟨s.toList, d, a, b, m⟩ = true) (hp : formV s.toList = ⟨73, o, g, f⟩) (hk : goodF ⟨73, o, g, f⟩) (w : World) :
    Calls Try.prog 41 #[.agg #[.string s, .int .i64 d, .int .i64 a, .int .i64 b, .int .i32 m]] w fun e w' => e = .returned (.agg #[.int .u32 (putV ⟨s.toList, d, a, b, m⟩), .int .i64 0]) ∧ Below w.heap.size w w' := by
  have HM : Hid (∀ w, Calls Try.prog 69 #[.agg #[.string s, .int .i64 d, .int .i64 a, .int .i64 b, .int .i32 m]] w fun e w' => e = .returned (.bool true) ∧ Below w.heap.size w w') := by
    intro w
    have h := rMay s d a b m w
    rw [hm] at h
    exact h
  have HF : Hid (∀ w, Calls Try.prog 70 #[.string s] w fun e w' => e = .returned (.agg #[.int .u8 73, .int .u32 o, .int .u32 g, .int .u32 f]) ∧ w' = w.alloc (.cells #[.int .u8 73, .int .u32 o, .int .u32 g, .int .u32 f] 132)) := rform' s 73 o g f hp
  have HR : Hid (regV d = true ∧ regV a = true ∧ regV b = true) := by
    have h := hm
    simp [mayV, mayF] at h
    exact ⟨h.1.1.1, h.1.1.2, h.1.2⟩
  have rd := (regV_iff d).mp HR.out.1
  have ra := (regV_iff a).mp HR.out.2.1
  have rb := (regV_iff b).mp HR.out.2.2
  have ud : IntKind.u32.wrap d = d := by rw [IntKind.wrap_u32']; omega
  have ua : IntKind.u32.wrap a = a := by rw [IntKind.wrap_u32']; omega
  have ub : IntKind.u32.wrap b = b := by rw [IntKind.wrap_u32']; omega
  have um := IntKind.wrap_u32' m
  have Hm : Hid (U32 (m % 4294967296)) := ⟨by omega, by omega⟩
  generalize hM : m % 4294967296 = M at *
  have HMM : Hid (m % 4294967296 = M) := hM
  have HH : Hid (mayV ⟨s.toList, d, a, b, m⟩ = true) := hm
  have HP : Hid (formV s.toList = ⟨73, o, g, f⟩) := hp
  unfold goodF at hk
  simp at hk
  obtain ⟨o0, o1, g0, g1, f0, f1⟩ := hk
  obtain ⟨d0, d1⟩ := rd
  obtain ⟨a0, a1⟩ := ra
  obtain ⟨b0, b1⟩ := rb
  have M0 : 0 ≤ M := by omega
  have M1 : M < 4294967296 := by omega
  clear hm hp hM
  go_enter Try.func41, Try.ntmps41
  go_wp2_with fail
  refine (HM _).mono ?_
  rintro e w1 ⟨rfl, hb⟩
  obtain ⟨hc, hf⟩ := bcell hb
  have hz := hb.size
  simp at hz
  go_wp2_with fail
  refine (HF _).mono ?_
  rintro e w' ⟨rfl, rfl⟩
  go_wp2_with fail
  obtain ⟨k0, k1, k2, k3, k4, q0, q1, z0, z1, f0', f1', f2', f3', bW⟩ := put_world (k := 73) (o := o) (g := g) (f := f) hb
  have HB : Hid _ := bW
  generalize (w1.alloc (.cells #[.int .u8 73, .int .u32 o, .int .u32 g, .int .u32 f] 132)).alloc (.cells #[.int .u8 73, .int .u32 o, .int .u32 g, .int .u32 f] 132) = W at *
  generalize hgf : w1.heap.size + 1 = G at *
  clear hb hc hf hz bW hgf
  go_quiet (fail)
  go_wp2_with (go_at_call 56; refine (rBits _ _ _ Hm _).mono ?_; rintro e w' ⟨rfl, rfl⟩)
  apply bodyPost_ret (hd := rfl)
  focus (simp [results, Try.results41, go_sem, q0, q1]; rfl)
  refine ⟨got_put ?_ rfl, ?_⟩
  · have e : putV ⟨s.toList, d, a, b, m⟩ = putF ⟨73, o, g, f⟩ d a b m := by unfold putV; rw [HP.out]
    rw [e]
    simp only [putF]
    rw [HMM.out, show M * 1048576 % 4294967296 = M % 4096 * 1048576 by omega]
    exact or_I (bd_mod M 4096 (by omega)) ⟨a0, a1⟩ ⟨g0, g1⟩ ⟨d0, d1⟩ ⟨o0, o1⟩
  · exact (((HB.out.trans (below_drewN _ _ _)).setCell (by simp) _).setCell (by simp) _)

set_option maxRecDepth 100000 in
set_option maxHeartbeats 2000000 in
theorem put_67 (s : ByteArray) (d a b m o g f : Int) (hm : mayV ⟨s.toList, d, a, b, m⟩ = true) (hp : formV s.toList = ⟨67, o, g, f⟩) (hk : goodF ⟨67, o, g, f⟩) (w : World) :
    Calls Try.prog 41 #[.agg #[.string s, .int .i64 d, .int .i64 a, .int .i64 b, .int .i32 m]] w fun e w' => e = .returned (.agg #[.int .u32 (putV ⟨s.toList, d, a, b, m⟩), .int .i64 0]) ∧ Below w.heap.size w w' := by
  have HM : Hid (∀ w, Calls Try.prog 69 #[.agg #[.string s, .int .i64 d, .int .i64 a, .int .i64 b, .int .i32 m]] w fun e w' => e = .returned (.bool true) ∧ Below w.heap.size w w') := by
    intro w
    have h := rMay s d a b m w
    rw [hm] at h
    exact h
  have HF : Hid (∀ w, Calls Try.prog 70 #[.string s] w fun e w' => e = .returned (.agg #[.int .u8 67, .int .u32 o, .int .u32 g, .int .u32 f]) ∧ w' = w.alloc (.cells #[.int .u8 67, .int .u32 o, .int .u32 g, .int .u32 f] 132)) := rform' s 67 o g f hp
  have HR : Hid (regV d = true ∧ regV a = true ∧ regV b = true) := by
    have h := hm
    simp [mayV, mayF] at h
    exact ⟨h.1.1.1, h.1.1.2, h.1.2⟩
  have rd := (regV_iff d).mp HR.out.1
  have ra := (regV_iff a).mp HR.out.2.1
  have rb := (regV_iff b).mp HR.out.2.2
  have ud : IntKind.u32.wrap d = d := by rw [IntKind.wrap_u32']; omega
  have ua : IntKind.u32.wrap a = a := by rw [IntKind.wrap_u32']; omega
  have ub : IntKind.u32.wrap b = b := by rw [IntKind.wrap_u32']; omega
  have um := IntKind.wrap_u32' m
  have Hm : Hid (U32 (m % 4294967296)) := ⟨by omega, by omega⟩
  generalize hM : m % 4294967296 = M at *
  have HMM : Hid (m % 4294967296 = M) := hM
  have HH : Hid (mayV ⟨s.toList, d, a, b, m⟩ = true) := hm
  have HP : Hid (formV s.toList = ⟨67, o, g, f⟩) := hp
  unfold goodF at hk
  simp at hk
  obtain ⟨o0, o1, g0, g1, f0, f1⟩ := hk
  obtain ⟨d0, d1⟩ := rd
  obtain ⟨a0, a1⟩ := ra
  obtain ⟨b0, b1⟩ := rb
  have M0 : 0 ≤ M := by omega
  have M1 : M < 4294967296 := by omega
  clear hm hp hM
  go_enter Try.func41, Try.ntmps41
  go_wp2_with fail
  refine (HM _).mono ?_
  rintro e w1 ⟨rfl, hb⟩
  obtain ⟨hc, hf⟩ := bcell hb
  have hz := hb.size
  simp at hz
  go_wp2_with fail
  refine (HF _).mono ?_
  rintro e w' ⟨rfl, rfl⟩
  go_wp2_with fail
  obtain ⟨k0, k1, k2, k3, k4, q0, q1, z0, z1, f0', f1', f2', f3', bW⟩ := put_world (k := 67) (o := o) (g := g) (f := f) hb
  have HB : Hid _ := bW
  generalize (w1.alloc (.cells #[.int .u8 67, .int .u32 o, .int .u32 g, .int .u32 f] 132)).alloc (.cells #[.int .u8 67, .int .u32 o, .int .u32 g, .int .u32 f] 132) = W at *
  generalize hgf : w1.heap.size + 1 = G at *
  clear hb hc hf hz bW hgf
  go_quiet (fail)
  go_wp2_with (go_at_call 56; refine (rBits _ _ _ Hm _).mono ?_; rintro e w' ⟨rfl, rfl⟩)
  apply bodyPost_ret (hd := rfl)
  focus (simp [results, Try.results41, go_sem, q0, q1]; rfl)
  refine ⟨got_put ?_ rfl, ?_⟩
  · have e : putV ⟨s.toList, d, a, b, m⟩ = putF ⟨67, o, g, f⟩ d a b m := by unfold putV; rw [HP.out]
    rw [e]
    simp only [putF]
    rw [HMM.out, show M * 1048576 % 4294967296 = M % 4096 * 1048576 by omega]
    exact or_I (bd_mod M 4096 (by omega)) ⟨a0, a1⟩ ⟨g0, g1⟩ ⟨d0, d1⟩ ⟨o0, o1⟩
  · exact (((HB.out.trans (below_drewN _ _ _)).setCell (by simp) _).setCell (by simp) _)

set_option maxRecDepth 100000 in
set_option maxHeartbeats 2000000 in
theorem put_83 (s : ByteArray) (d a b m o g f : Int) (hm : mayV ⟨s.toList, d, a, b, m⟩ = true) (hp : formV s.toList = ⟨83, o, g, f⟩) (hk : goodF ⟨83, o, g, f⟩) (w : World) :
    Calls Try.prog 41 #[.agg #[.string s, .int .i64 d, .int .i64 a, .int .i64 b, .int .i32 m]] w fun e w' => e = .returned (.agg #[.int .u32 (putV ⟨s.toList, d, a, b, m⟩), .int .i64 0]) ∧ Below w.heap.size w w' := by
  have HM : Hid (∀ w, Calls Try.prog 69 #[.agg #[.string s, .int .i64 d, .int .i64 a, .int .i64 b, .int .i32 m]] w fun e w' => e = .returned (.bool true) ∧ Below w.heap.size w w') := by
    intro w
    have h := rMay s d a b m w
    rw [hm] at h
    exact h
  have HF : Hid (∀ w, Calls Try.prog 70 #[.string s] w fun e w' => e = .returned (.agg #[.int .u8 83, .int .u32 o, .int .u32 g, .int .u32 f]) ∧ w' = w.alloc (.cells #[.int .u8 83, .int .u32 o, .int .u32 g, .int .u32 f] 132)) := rform' s 83 o g f hp
  have HR : Hid (regV d = true ∧ regV a = true ∧ regV b = true) := by
    have h := hm
    simp [mayV, mayF] at h
    exact ⟨h.1.1.1, h.1.1.2, h.1.2⟩
  have rd := (regV_iff d).mp HR.out.1
  have ra := (regV_iff a).mp HR.out.2.1
  have rb := (regV_iff b).mp HR.out.2.2
  have ud : IntKind.u32.wrap d = d := by rw [IntKind.wrap_u32']; omega
  have ua : IntKind.u32.wrap a = a := by rw [IntKind.wrap_u32']; omega
  have ub : IntKind.u32.wrap b = b := by rw [IntKind.wrap_u32']; omega
  have um := IntKind.wrap_u32' m
  have Hm : Hid (U32 (m % 4294967296)) := ⟨by omega, by omega⟩
  generalize hM : m % 4294967296 = M at *
  have HMM : Hid (m % 4294967296 = M) := hM
  have HH : Hid (mayV ⟨s.toList, d, a, b, m⟩ = true) := hm
  have HP : Hid (formV s.toList = ⟨83, o, g, f⟩) := hp
  unfold goodF at hk
  simp at hk
  obtain ⟨o0, o1, g0, g1, f0, f1⟩ := hk
  obtain ⟨d0, d1⟩ := rd
  obtain ⟨a0, a1⟩ := ra
  obtain ⟨b0, b1⟩ := rb
  have M0 : 0 ≤ M := by omega
  have M1 : M < 4294967296 := by omega
  clear hm hp hM
  have hs : M ≤ 31 := by
    have h := HH.out
    simp [mayV, HP.out, mayF, inV_iff] at h
    have := HMM.out
    omega
  go_enter Try.func41, Try.ntmps41
  go_wp2_with fail
  refine (HM _).mono ?_
  rintro e w1 ⟨rfl, hb⟩
  obtain ⟨hc, hf⟩ := bcell hb
  have hz := hb.size
  simp at hz
  go_wp2_with fail
  refine (HF _).mono ?_
  rintro e w' ⟨rfl, rfl⟩
  go_wp2_with fail
  obtain ⟨k0, k1, k2, k3, k4, q0, q1, z0, z1, f0', f1', f2', f3', bW⟩ := put_world (k := 83) (o := o) (g := g) (f := f) hb
  have HB : Hid _ := bW
  generalize (w1.alloc (.cells #[.int .u8 83, .int .u32 o, .int .u32 g, .int .u32 f] 132)).alloc (.cells #[.int .u8 83, .int .u32 o, .int .u32 g, .int .u32 f] 132) = W at *
  generalize hgf : w1.heap.size + 1 = G at *
  clear hb hc hf hz bW hgf
  go_quiet (fail)
  go_wp2_with (go_at_call 56; refine (rBits _ _ _ Hm _).mono ?_; rintro e w' ⟨rfl, rfl⟩)
  apply bodyPost_ret (hd := rfl)
  focus (simp [results, Try.results41, go_sem, q0, q1]; rfl)
  refine ⟨got_put ?_ rfl, ?_⟩
  · have e : putV ⟨s.toList, d, a, b, m⟩ = putF ⟨83, o, g, f⟩ d a b m := by unfold putV; rw [HP.out]
    rw [e]
    simp only [putF]
    rw [HMM.out]
    exact or_R ⟨f0, f1⟩ ⟨M0, by omega⟩ ⟨a0, a1⟩ ⟨g0, g1⟩ ⟨d0, d1⟩ ⟨o0, o1⟩
  · exact (((HB.out.trans (below_drewN _ _ _)).setCell (by simp) _).setCell (by simp) _)

set_option maxRecDepth 100000 in
set_option maxHeartbeats 2000000 in
theorem put_85 (s : ByteArray) (d a b m o g f : Int) (hm : mayV ⟨s.toList, d, a, b, m⟩ = true) (hp : formV s.toList = ⟨85, o, g, f⟩) (hk : goodF ⟨85, o, g, f⟩) (w : World) :
    Calls Try.prog 41 #[.agg #[.string s, .int .i64 d, .int .i64 a, .int .i64 b, .int .i32 m]] w fun e w' => e = .returned (.agg #[.int .u32 (putV ⟨s.toList, d, a, b, m⟩), .int .i64 0]) ∧ Below w.heap.size w w' := by
  have HM : Hid (∀ w, Calls Try.prog 69 #[.agg #[.string s, .int .i64 d, .int .i64 a, .int .i64 b, .int .i32 m]] w fun e w' => e = .returned (.bool true) ∧ Below w.heap.size w w') := by
    intro w
    have h := rMay s d a b m w
    rw [hm] at h
    exact h
  have HF : Hid (∀ w, Calls Try.prog 70 #[.string s] w fun e w' => e = .returned (.agg #[.int .u8 85, .int .u32 o, .int .u32 g, .int .u32 f]) ∧ w' = w.alloc (.cells #[.int .u8 85, .int .u32 o, .int .u32 g, .int .u32 f] 132)) := rform' s 85 o g f hp
  have HR : Hid (regV d = true ∧ regV a = true ∧ regV b = true) := by
    have h := hm
    simp [mayV, mayF] at h
    exact ⟨h.1.1.1, h.1.1.2, h.1.2⟩
  have rd := (regV_iff d).mp HR.out.1
  have ra := (regV_iff a).mp HR.out.2.1
  have rb := (regV_iff b).mp HR.out.2.2
  have ud : IntKind.u32.wrap d = d := by rw [IntKind.wrap_u32']; omega
  have ua : IntKind.u32.wrap a = a := by rw [IntKind.wrap_u32']; omega
  have ub : IntKind.u32.wrap b = b := by rw [IntKind.wrap_u32']; omega
  have um := IntKind.wrap_u32' m
  have Hm : Hid (U32 (m % 4294967296)) := ⟨by omega, by omega⟩
  generalize hM : m % 4294967296 = M at *
  have HMM : Hid (m % 4294967296 = M) := hM
  have HH : Hid (mayV ⟨s.toList, d, a, b, m⟩ = true) := hm
  have HP : Hid (formV s.toList = ⟨85, o, g, f⟩) := hp
  unfold goodF at hk
  simp at hk
  obtain ⟨o0, o1, g0, g1, f0, f1⟩ := hk
  obtain ⟨d0, d1⟩ := rd
  obtain ⟨a0, a1⟩ := ra
  obtain ⟨b0, b1⟩ := rb
  have M0 : 0 ≤ M := by omega
  have M1 : M < 4294967296 := by omega
  clear hm hp hM
  have hs : M < 1048576 := by
    have h := HH.out
    simp [mayV, HP.out, mayF, inV_iff] at h
    have := HMM.out
    omega
  go_enter Try.func41, Try.ntmps41
  go_wp2_with fail
  refine (HM _).mono ?_
  rintro e w1 ⟨rfl, hb⟩
  obtain ⟨hc, hf⟩ := bcell hb
  have hz := hb.size
  simp at hz
  go_wp2_with fail
  refine (HF _).mono ?_
  rintro e w' ⟨rfl, rfl⟩
  go_wp2_with fail
  obtain ⟨k0, k1, k2, k3, k4, q0, q1, z0, z1, f0', f1', f2', f3', bW⟩ := put_world (k := 85) (o := o) (g := g) (f := f) hb
  have HB : Hid _ := bW
  generalize (w1.alloc (.cells #[.int .u8 85, .int .u32 o, .int .u32 g, .int .u32 f] 132)).alloc (.cells #[.int .u8 85, .int .u32 o, .int .u32 g, .int .u32 f] 132) = W at *
  generalize hgf : w1.heap.size + 1 = G at *
  clear hb hc hf hz bW hgf
  go_quiet (fail)
  go_wp2_with (go_at_call 56; refine (rBits _ _ _ Hm _).mono ?_; rintro e w' ⟨rfl, rfl⟩)
  apply bodyPost_ret (hd := rfl)
  focus (simp [results, Try.results41, go_sem, q0, q1]; rfl)
  refine ⟨got_put ?_ rfl, ?_⟩
  · have e : putV ⟨s.toList, d, a, b, m⟩ = putF ⟨85, o, g, f⟩ d a b m := by unfold putV; rw [HP.out]
    rw [e]
    simp only [putF]
    rw [HMM.out]
    exact or_U ⟨M0, hs⟩ ⟨d0, d1⟩ ⟨o0, o1⟩
  · exact (((HB.out.trans (below_drewN _ _ _)).setCell (by simp) _).setCell (by simp) _)

set_option maxRecDepth 100000 in
set_option maxHeartbeats 2000000 in
theorem put_115 (s : ByteArray) (d a b m o g f : Int) (hm : mayV ⟨s.toList, d, a, b, m⟩ = true) (hp : formV s.toList = ⟨115, o, g, f⟩) (hk : goodF ⟨115, o, g, f⟩) (w : World) :
    Calls Try.prog 41 #[.agg #[.string s, .int .i64 d, .int .i64 a, .int .i64 b, .int .i32 m]] w fun e w' => e = .returned (.agg #[.int .u32 (putV ⟨s.toList, d, a, b, m⟩), .int .i64 0]) ∧ Below w.heap.size w w' := by
  have HM : Hid (∀ w, Calls Try.prog 69 #[.agg #[.string s, .int .i64 d, .int .i64 a, .int .i64 b, .int .i32 m]] w fun e w' => e = .returned (.bool true) ∧ Below w.heap.size w w') := by
    intro w
    have h := rMay s d a b m w
    rw [hm] at h
    exact h
  have HF : Hid (∀ w, Calls Try.prog 70 #[.string s] w fun e w' => e = .returned (.agg #[.int .u8 115, .int .u32 o, .int .u32 g, .int .u32 f]) ∧ w' = w.alloc (.cells #[.int .u8 115, .int .u32 o, .int .u32 g, .int .u32 f] 132)) := rform' s 115 o g f hp
  have HR : Hid (regV d = true ∧ regV a = true ∧ regV b = true) := by
    have h := hm
    simp [mayV, mayF] at h
    exact ⟨h.1.1.1, h.1.1.2, h.1.2⟩
  have rd := (regV_iff d).mp HR.out.1
  have ra := (regV_iff a).mp HR.out.2.1
  have rb := (regV_iff b).mp HR.out.2.2
  have ud : IntKind.u32.wrap d = d := by rw [IntKind.wrap_u32']; omega
  have ua : IntKind.u32.wrap a = a := by rw [IntKind.wrap_u32']; omega
  have ub : IntKind.u32.wrap b = b := by rw [IntKind.wrap_u32']; omega
  have um := IntKind.wrap_u32' m
  have Hm : Hid (U32 (m % 4294967296)) := ⟨by omega, by omega⟩
  generalize hM : m % 4294967296 = M at *
  have HMM : Hid (m % 4294967296 = M) := hM
  have HH : Hid (mayV ⟨s.toList, d, a, b, m⟩ = true) := hm
  have HP : Hid (formV s.toList = ⟨115, o, g, f⟩) := hp
  unfold goodF at hk
  simp at hk
  obtain ⟨o0, o1, g0, g1, f0, f1⟩ := hk
  obtain ⟨d0, d1⟩ := rd
  obtain ⟨a0, a1⟩ := ra
  obtain ⟨b0, b1⟩ := rb
  have M0 : 0 ≤ M := by omega
  have M1 : M < 4294967296 := by omega
  clear hm hp hM
  have hu : bitsV M 5 7 = M / 2 ^ 5 % 2 ^ 7 := bitsV_int Hm 5 7 (by omega) (by omega) (by omega)
  have bu := bd_mod (M / 2 ^ 5) (2 ^ 7) (by omega)
  generalize hxu : M / 2 ^ 5 % 2 ^ 7 = u at hu bu
  have Xu : Hid (M / 2 ^ 5 % 2 ^ 7 = u) := hxu
  obtain ⟨cu, Cu⟩ := bu
  clear hxu
  have hv : bitsV M 0 5 = M / 2 ^ 0 % 2 ^ 5 := bitsV_int Hm 0 5 (by omega) (by omega) (by omega)
  have bv := bd_mod (M / 2 ^ 0) (2 ^ 5) (by omega)
  generalize hxv : M / 2 ^ 0 % 2 ^ 5 = v at hv bv
  have Xv : Hid (M / 2 ^ 0 % 2 ^ 5 = v) := hxv
  obtain ⟨cv, Cv⟩ := bv
  clear hxv
  have y0 : IntKind.u32.wrap (u * 33554432) = u * 33554432 := by rw [IntKind.wrap_u32']; omega
  have y1 : IntKind.u32.wrap (b * 1048576) = b * 1048576 := by rw [IntKind.wrap_u32']; omega
  have y2 : IntKind.u32.wrap (a * 32768) = a * 32768 := by rw [IntKind.wrap_u32']; omega
  have y3 : IntKind.u32.wrap (v * 128) = v * 128 := by rw [IntKind.wrap_u32']; omega
  go_enter Try.func41, Try.ntmps41
  go_wp2_with fail
  refine (HM _).mono ?_
  rintro e w1 ⟨rfl, hb⟩
  obtain ⟨hc, hf⟩ := bcell hb
  have hz := hb.size
  simp at hz
  go_wp2_with fail
  refine (HF _).mono ?_
  rintro e w' ⟨rfl, rfl⟩
  go_wp2_with fail
  obtain ⟨k0, k1, k2, k3, k4, q0, q1, z0, z1, f0', f1', f2', f3', bW⟩ := put_world (k := 115) (o := o) (g := g) (f := f) hb
  have HB : Hid _ := bW
  generalize (w1.alloc (.cells #[.int .u8 115, .int .u32 o, .int .u32 g, .int .u32 f] 132)).alloc (.cells #[.int .u8 115, .int .u32 o, .int .u32 g, .int .u32 f] 132) = W at *
  generalize hgf : w1.heap.size + 1 = G at *
  clear hb hc hf hz bW hgf
  go_quiet (fail)
  go_wp2_with fail
  have F1 : (W.drewN nq).cell? ⟨G, 1, none⟩ = some (.int .u32 o) := f1'
  have Q0 : (W.drewN nq).cell? ⟨w.heap.size + 1, 0, none⟩ = some (.int .u32 0) := q0
  have Q1 : (W.drewN nq).cell? ⟨w.heap.size + 1, 1, none⟩ = some (.int .i64 0) := q1
  have Z0 : (W.drewN nq).frozen? ⟨w.heap.size + 1, 0, none⟩ = false := z0
  have Z1 : (W.drewN nq).frozen? ⟨w.heap.size + 1, 1, none⟩ = false := z1
  have HB2 : Hid (Below w.heap.size w (W.drewN nq)) := HB.out.trans (below_drewN _ _ _)
  generalize W.drewN nq = V at *
  refine region_tail 19 (by kernel_rfl) (by kernel_rfl) ?_
  simp only [List.take_succ_cons, List.take_zero, List.drop_succ_cons, List.drop_zero]
  still_step
  still_call (rBits _ _ _ Hm _)
  still_step
  still_step
  still_step
  still_step
  still_step
  still_step
  still_step
  still_step
  still_step
  still_step
  still_call (rBits _ _ _ Hm _)
  still_step
  still_step
  still_step
  still_step
  still_step
  still_step
  refine wpStill_nil ?_
  go_wp2_with fail
  apply bodyPost_ret (hd := rfl)
  focus (simp [results, Try.results41, go_sem, Q0, Q1]; rfl)
  refine ⟨got_put ?_ rfl, ?_⟩
  · have e : putV ⟨s.toList, d, a, b, m⟩ = putF ⟨115, o, g, f⟩ d a b m := by unfold putV; rw [HP.out]
    rw [e]
    simp only [putF]
    have Xu' := Xu.out
    have Xv' := Xv.out
    rw [HMM.out, show M / 32 % 128 = u from Xu', show M % 32 = v by rw [← Xv']; omega]
    exact or_R ⟨cu, Cu⟩ ⟨b0, b1⟩ ⟨a0, a1⟩ ⟨g0, g1⟩ ⟨cv, Cv⟩ ⟨o0, o1⟩
  · exact ((HB2.out.drew.setCell (by simp) _).setCell (by simp) _)

set_option maxRecDepth 100000 in
set_option maxHeartbeats 2000000 in
theorem put_66 (s : ByteArray) (d a b m o g f : Int) (hm : mayV ⟨s.toList, d, a, b, m⟩ = true) (hp : formV s.toList = ⟨66, o, g, f⟩) (hk : goodF ⟨66, o, g, f⟩) (w : World) :
    Calls Try.prog 41 #[.agg #[.string s, .int .i64 d, .int .i64 a, .int .i64 b, .int .i32 m]] w fun e w' => e = .returned (.agg #[.int .u32 (putV ⟨s.toList, d, a, b, m⟩), .int .i64 0]) ∧ Below w.heap.size w w' := by
  have HM : Hid (∀ w, Calls Try.prog 69 #[.agg #[.string s, .int .i64 d, .int .i64 a, .int .i64 b, .int .i32 m]] w fun e w' => e = .returned (.bool true) ∧ Below w.heap.size w w') := by
    intro w
    have h := rMay s d a b m w
    rw [hm] at h
    exact h
  have HF : Hid (∀ w, Calls Try.prog 70 #[.string s] w fun e w' => e = .returned (.agg #[.int .u8 66, .int .u32 o, .int .u32 g, .int .u32 f]) ∧ w' = w.alloc (.cells #[.int .u8 66, .int .u32 o, .int .u32 g, .int .u32 f] 132)) := rform' s 66 o g f hp
  have HR : Hid (regV d = true ∧ regV a = true ∧ regV b = true) := by
    have h := hm
    simp [mayV, mayF] at h
    exact ⟨h.1.1.1, h.1.1.2, h.1.2⟩
  have rd := (regV_iff d).mp HR.out.1
  have ra := (regV_iff a).mp HR.out.2.1
  have rb := (regV_iff b).mp HR.out.2.2
  have ud : IntKind.u32.wrap d = d := by rw [IntKind.wrap_u32']; omega
  have ua : IntKind.u32.wrap a = a := by rw [IntKind.wrap_u32']; omega
  have ub : IntKind.u32.wrap b = b := by rw [IntKind.wrap_u32']; omega
  have um := IntKind.wrap_u32' m
  have Hm : Hid (U32 (m % 4294967296)) := ⟨by omega, by omega⟩
  generalize hM : m % 4294967296 = M at *
  have HMM : Hid (m % 4294967296 = M) := hM
  have HH : Hid (mayV ⟨s.toList, d, a, b, m⟩ = true) := hm
  have HP : Hid (formV s.toList = ⟨66, o, g, f⟩) := hp
  unfold goodF at hk
  simp at hk
  obtain ⟨o0, o1, g0, g1, f0, f1⟩ := hk
  obtain ⟨d0, d1⟩ := rd
  obtain ⟨a0, a1⟩ := ra
  obtain ⟨b0, b1⟩ := rb
  have M0 : 0 ≤ M := by omega
  have M1 : M < 4294967296 := by omega
  clear hm hp hM
  have ht : bitsV M 12 1 = M / 2 ^ 12 % 2 ^ 1 := bitsV_int Hm 12 1 (by omega) (by omega) (by omega)
  have bt := bd_mod (M / 2 ^ 12) (2 ^ 1) (by omega)
  generalize hxt : M / 2 ^ 12 % 2 ^ 1 = t at ht bt
  have Xt : Hid (M / 2 ^ 12 % 2 ^ 1 = t) := hxt
  obtain ⟨ct, Ct⟩ := bt
  clear hxt
  have hv : bitsV M 5 6 = M / 2 ^ 5 % 2 ^ 6 := bitsV_int Hm 5 6 (by omega) (by omega) (by omega)
  have bv := bd_mod (M / 2 ^ 5) (2 ^ 6) (by omega)
  generalize hxv : M / 2 ^ 5 % 2 ^ 6 = v at hv bv
  have Xv : Hid (M / 2 ^ 5 % 2 ^ 6 = v) := hxv
  obtain ⟨cv, Cv⟩ := bv
  clear hxv
  have hx : bitsV M 1 4 = M / 2 ^ 1 % 2 ^ 4 := bitsV_int Hm 1 4 (by omega) (by omega) (by omega)
  have bx := bd_mod (M / 2 ^ 1) (2 ^ 4) (by omega)
  generalize hxx : M / 2 ^ 1 % 2 ^ 4 = x at hx bx
  have Xx : Hid (M / 2 ^ 1 % 2 ^ 4 = x) := hxx
  obtain ⟨cx, Cx⟩ := bx
  clear hxx
  have hu : bitsV M 11 1 = M / 2 ^ 11 % 2 ^ 1 := bitsV_int Hm 11 1 (by omega) (by omega) (by omega)
  have bu := bd_mod (M / 2 ^ 11) (2 ^ 1) (by omega)
  generalize hxu : M / 2 ^ 11 % 2 ^ 1 = u at hu bu
  have Xu : Hid (M / 2 ^ 11 % 2 ^ 1 = u) := hxu
  obtain ⟨cu, Cu⟩ := bu
  clear hxu
  have y0 : IntKind.u32.wrap (t * 2147483648) = t * 2147483648 := by rw [IntKind.wrap_u32']; omega
  have y1 : IntKind.u32.wrap (v * 33554432) = v * 33554432 := by rw [IntKind.wrap_u32']; omega
  have y2 : IntKind.u32.wrap (b * 1048576) = b * 1048576 := by rw [IntKind.wrap_u32']; omega
  have y3 : IntKind.u32.wrap (a * 32768) = a * 32768 := by rw [IntKind.wrap_u32']; omega
  have y4 : IntKind.u32.wrap (x * 256) = x * 256 := by rw [IntKind.wrap_u32']; omega
  have y5 : IntKind.u32.wrap (u * 128) = u * 128 := by rw [IntKind.wrap_u32']; omega
  go_enter Try.func41, Try.ntmps41
  go_wp2_with fail
  refine (HM _).mono ?_
  rintro e w1 ⟨rfl, hb⟩
  obtain ⟨hc, hf⟩ := bcell hb
  have hz := hb.size
  simp at hz
  go_wp2_with fail
  refine (HF _).mono ?_
  rintro e w' ⟨rfl, rfl⟩
  go_wp2_with fail
  obtain ⟨k0, k1, k2, k3, k4, q0, q1, z0, z1, f0', f1', f2', f3', bW⟩ := put_world (k := 66) (o := o) (g := g) (f := f) hb
  have HB : Hid _ := bW
  generalize (w1.alloc (.cells #[.int .u8 66, .int .u32 o, .int .u32 g, .int .u32 f] 132)).alloc (.cells #[.int .u8 66, .int .u32 o, .int .u32 g, .int .u32 f] 132) = W at *
  generalize hgf : w1.heap.size + 1 = G at *
  clear hb hc hf hz bW hgf
  go_quiet (fail)
  go_wp2_with fail
  have F1 : (W.drewN nq).cell? ⟨G, 1, none⟩ = some (.int .u32 o) := f1'
  have Q0 : (W.drewN nq).cell? ⟨w.heap.size + 1, 0, none⟩ = some (.int .u32 0) := q0
  have Q1 : (W.drewN nq).cell? ⟨w.heap.size + 1, 1, none⟩ = some (.int .i64 0) := q1
  have Z0 : (W.drewN nq).frozen? ⟨w.heap.size + 1, 0, none⟩ = false := z0
  have Z1 : (W.drewN nq).frozen? ⟨w.heap.size + 1, 1, none⟩ = false := z1
  have HB2 : Hid (Below w.heap.size w (W.drewN nq)) := HB.out.trans (below_drewN _ _ _)
  generalize W.drewN nq = V at *
  refine region_tail 27 (by kernel_rfl) (by kernel_rfl) ?_
  simp only [List.take_succ_cons, List.take_zero, List.drop_succ_cons, List.drop_zero]
  still_step
  still_call (rBits _ _ _ Hm _)
  still_step
  still_step
  still_call (rBits _ _ _ Hm _)
  still_step
  still_step
  still_step
  still_step
  still_step
  still_step
  still_step
  still_step
  still_step
  still_step
  still_step
  still_call (rBits _ _ _ Hm _)
  still_step
  still_step
  still_step
  still_call (rBits _ _ _ Hm _)
  still_step
  still_step
  still_step
  still_step
  still_step
  still_step
  refine wpStill_nil ?_
  go_wp2_with fail
  apply bodyPost_ret (hd := rfl)
  focus (simp [results, Try.results41, go_sem, Q0, Q1]; rfl)
  refine ⟨got_put ?_ rfl, ?_⟩
  · have e : putV ⟨s.toList, d, a, b, m⟩ = putF ⟨66, o, g, f⟩ d a b m := by unfold putV; rw [HP.out]
    rw [e]
    simp only [putF]
    have Xt' : M / 4096 % 2 = t := Xt.out
    have Xv' : M / 32 % 64 = v := Xv.out
    have Xx' : M / 2 % 16 = x := Xx.out
    have Xu' : M / 2048 % 2 = u := Xu.out
    rw [HMM.out, Xt', Xv', Xx', Xu']
    exact or_B ⟨ct, Ct⟩ ⟨cv, Cv⟩ ⟨b0, b1⟩ ⟨a0, a1⟩ ⟨g0, g1⟩ ⟨cx, Cx⟩ ⟨cu, Cu⟩ ⟨o0, o1⟩
  · exact ((HB2.out.drew.setCell (by simp) _).setCell (by simp) _)

set_option maxRecDepth 100000 in
set_option maxHeartbeats 2000000 in
theorem put_74 (s : ByteArray) (d a b m o g f : Int) (hm : mayV ⟨s.toList, d, a, b, m⟩ = true) (hp : formV s.toList = ⟨74, o, g, f⟩) (hk : goodF ⟨74, o, g, f⟩) (w : World) :
    Calls Try.prog 41 #[.agg #[.string s, .int .i64 d, .int .i64 a, .int .i64 b, .int .i32 m]] w fun e w' => e = .returned (.agg #[.int .u32 (putV ⟨s.toList, d, a, b, m⟩), .int .i64 0]) ∧ Below w.heap.size w w' := by
  have HM : Hid (∀ w, Calls Try.prog 69 #[.agg #[.string s, .int .i64 d, .int .i64 a, .int .i64 b, .int .i32 m]] w fun e w' => e = .returned (.bool true) ∧ Below w.heap.size w w') := by
    intro w
    have h := rMay s d a b m w
    rw [hm] at h
    exact h
  have HF : Hid (∀ w, Calls Try.prog 70 #[.string s] w fun e w' => e = .returned (.agg #[.int .u8 74, .int .u32 o, .int .u32 g, .int .u32 f]) ∧ w' = w.alloc (.cells #[.int .u8 74, .int .u32 o, .int .u32 g, .int .u32 f] 132)) := rform' s 74 o g f hp
  have HR : Hid (regV d = true ∧ regV a = true ∧ regV b = true) := by
    have h := hm
    simp [mayV, mayF] at h
    exact ⟨h.1.1.1, h.1.1.2, h.1.2⟩
  have rd := (regV_iff d).mp HR.out.1
  have ra := (regV_iff a).mp HR.out.2.1
  have rb := (regV_iff b).mp HR.out.2.2
  have ud : IntKind.u32.wrap d = d := by rw [IntKind.wrap_u32']; omega
  have ua : IntKind.u32.wrap a = a := by rw [IntKind.wrap_u32']; omega
  have ub : IntKind.u32.wrap b = b := by rw [IntKind.wrap_u32']; omega
  have um := IntKind.wrap_u32' m
  have Hm : Hid (U32 (m % 4294967296)) := ⟨by omega, by omega⟩
  generalize hM : m % 4294967296 = M at *
  have HMM : Hid (m % 4294967296 = M) := hM
  have HH : Hid (mayV ⟨s.toList, d, a, b, m⟩ = true) := hm
  have HP : Hid (formV s.toList = ⟨74, o, g, f⟩) := hp
  unfold goodF at hk
  simp at hk
  obtain ⟨o0, o1, g0, g1, f0, f1⟩ := hk
  obtain ⟨d0, d1⟩ := rd
  obtain ⟨a0, a1⟩ := ra
  obtain ⟨b0, b1⟩ := rb
  have M0 : 0 ≤ M := by omega
  have M1 : M < 4294967296 := by omega
  clear hm hp hM
  have ht : bitsV M 20 1 = M / 2 ^ 20 % 2 ^ 1 := bitsV_int Hm 20 1 (by omega) (by omega) (by omega)
  have bt := bd_mod (M / 2 ^ 20) (2 ^ 1) (by omega)
  generalize hxt : M / 2 ^ 20 % 2 ^ 1 = t at ht bt
  have Xt : Hid (M / 2 ^ 20 % 2 ^ 1 = t) := hxt
  obtain ⟨ct, Ct⟩ := bt
  clear hxt
  have hv : bitsV M 1 10 = M / 2 ^ 1 % 2 ^ 10 := bitsV_int Hm 1 10 (by omega) (by omega) (by omega)
  have bv := bd_mod (M / 2 ^ 1) (2 ^ 10) (by omega)
  generalize hxv : M / 2 ^ 1 % 2 ^ 10 = v at hv bv
  have Xv : Hid (M / 2 ^ 1 % 2 ^ 10 = v) := hxv
  obtain ⟨cv, Cv⟩ := bv
  clear hxv
  have hu : bitsV M 11 1 = M / 2 ^ 11 % 2 ^ 1 := bitsV_int Hm 11 1 (by omega) (by omega) (by omega)
  have bu := bd_mod (M / 2 ^ 11) (2 ^ 1) (by omega)
  generalize hxu : M / 2 ^ 11 % 2 ^ 1 = u at hu bu
  have Xu : Hid (M / 2 ^ 11 % 2 ^ 1 = u) := hxu
  obtain ⟨cu, Cu⟩ := bu
  clear hxu
  have hx : bitsV M 12 8 = M / 2 ^ 12 % 2 ^ 8 := bitsV_int Hm 12 8 (by omega) (by omega) (by omega)
  have bx := bd_mod (M / 2 ^ 12) (2 ^ 8) (by omega)
  generalize hxx : M / 2 ^ 12 % 2 ^ 8 = x at hx bx
  have Xx : Hid (M / 2 ^ 12 % 2 ^ 8 = x) := hxx
  obtain ⟨cx, Cx⟩ := bx
  clear hxx
  have y0 : IntKind.u32.wrap (t * 2147483648) = t * 2147483648 := by rw [IntKind.wrap_u32']; omega
  have y1 : IntKind.u32.wrap (v * 2097152) = v * 2097152 := by rw [IntKind.wrap_u32']; omega
  have y2 : IntKind.u32.wrap (u * 1048576) = u * 1048576 := by rw [IntKind.wrap_u32']; omega
  have y3 : IntKind.u32.wrap (x * 4096) = x * 4096 := by rw [IntKind.wrap_u32']; omega
  have y4 : IntKind.u32.wrap (d * 128) = d * 128 := by rw [IntKind.wrap_u32']; omega
  go_enter Try.func41, Try.ntmps41
  go_wp2_with fail
  refine (HM _).mono ?_
  rintro e w1 ⟨rfl, hb⟩
  obtain ⟨hc, hf⟩ := bcell hb
  have hz := hb.size
  simp at hz
  go_wp2_with fail
  refine (HF _).mono ?_
  rintro e w' ⟨rfl, rfl⟩
  go_wp2_with fail
  obtain ⟨k0, k1, k2, k3, k4, q0, q1, z0, z1, f0', f1', f2', f3', bW⟩ := put_world (k := 74) (o := o) (g := g) (f := f) hb
  have HB : Hid _ := bW
  generalize (w1.alloc (.cells #[.int .u8 74, .int .u32 o, .int .u32 g, .int .u32 f] 132)).alloc (.cells #[.int .u8 74, .int .u32 o, .int .u32 g, .int .u32 f] 132) = W at *
  generalize hgf : w1.heap.size + 1 = G at *
  clear hb hc hf hz bW hgf
  go_quiet (fail)
  go_wp2_with fail
  have F1 : (W.drewN nq).cell? ⟨G, 1, none⟩ = some (.int .u32 o) := f1'
  have Q0 : (W.drewN nq).cell? ⟨w.heap.size + 1, 0, none⟩ = some (.int .u32 0) := q0
  have Q1 : (W.drewN nq).cell? ⟨w.heap.size + 1, 1, none⟩ = some (.int .i64 0) := q1
  have Z0 : (W.drewN nq).frozen? ⟨w.heap.size + 1, 0, none⟩ = false := z0
  have Z1 : (W.drewN nq).frozen? ⟨w.heap.size + 1, 1, none⟩ = false := z1
  have HB2 : Hid (Below w.heap.size w (W.drewN nq)) := HB.out.trans (below_drewN _ _ _)
  generalize W.drewN nq = V at *
  refine region_tail 22 (by kernel_rfl) (by kernel_rfl) ?_
  simp only [List.take_succ_cons, List.take_zero, List.drop_succ_cons, List.drop_zero]
  still_step
  still_call (rBits _ _ _ Hm _)
  still_step
  still_step
  still_call (rBits _ _ _ Hm _)
  still_step
  still_step
  still_step
  still_call (rBits _ _ _ Hm _)
  still_step
  still_step
  still_step
  still_call (rBits _ _ _ Hm _)
  still_step
  still_step
  still_step
  still_step
  still_step
  still_step
  still_step
  still_step
  still_step
  refine wpStill_nil ?_
  go_wp2_with fail
  apply bodyPost_ret (hd := rfl)
  focus (simp [results, Try.results41, go_sem, Q0, Q1]; rfl)
  refine ⟨got_put ?_ rfl, ?_⟩
  · have e : putV ⟨s.toList, d, a, b, m⟩ = putF ⟨74, o, g, f⟩ d a b m := by unfold putV; rw [HP.out]
    rw [e]
    simp only [putF]
    have Xt' : M / 1048576 % 2 = t := Xt.out
    have Xv' : M / 2 % 1024 = v := Xv.out
    have Xx' : M / 4096 % 256 = x := Xx.out
    have Xu' : M / 2048 % 2 = u := Xu.out
    rw [HMM.out, Xt', Xv', Xx', Xu']
    exact or_J ⟨ct, Ct⟩ ⟨cv, Cv⟩ ⟨cu, Cu⟩ ⟨cx, Cx⟩ ⟨d0, d1⟩ ⟨o0, o1⟩
  · exact ((HB2.out.drew.setCell (by simp) _).setCell (by simp) _)

set_option maxRecDepth 100000 in
set_option maxHeartbeats 2000000 in
theorem put_87 (s : ByteArray) (d a b m o g f : Int) (hm : mayV ⟨s.toList, d, a, b, m⟩ = true) (hp : formV s.toList = ⟨87, o, g, f⟩) (hk : goodF ⟨87, o, g, f⟩) (w : World) :
    Calls Try.prog 41 #[.agg #[.string s, .int .i64 d, .int .i64 a, .int .i64 b, .int .i32 m]] w fun e w' => e = .returned (.agg #[.int .u32 (putV ⟨s.toList, d, a, b, m⟩), .int .i64 0]) ∧ Below w.heap.size w w' := by
  have HM : Hid (∀ w, Calls Try.prog 69 #[.agg #[.string s, .int .i64 d, .int .i64 a, .int .i64 b, .int .i32 m]] w fun e w' => e = .returned (.bool true) ∧ Below w.heap.size w w') := by
    intro w
    have h := rMay s d a b m w
    rw [hm] at h
    exact h
  have HF : Hid (∀ w, Calls Try.prog 70 #[.string s] w fun e w' => e = .returned (.agg #[.int .u8 87, .int .u32 o, .int .u32 g, .int .u32 f]) ∧ w' = w.alloc (.cells #[.int .u8 87, .int .u32 o, .int .u32 g, .int .u32 f] 132)) := rform' s 87 o g f hp
  have HR : Hid (regV d = true ∧ regV a = true ∧ regV b = true) := by
    have h := hm
    simp [mayV, mayF] at h
    exact ⟨h.1.1.1, h.1.1.2, h.1.2⟩
  have rd := (regV_iff d).mp HR.out.1
  have ra := (regV_iff a).mp HR.out.2.1
  have rb := (regV_iff b).mp HR.out.2.2
  have ud : IntKind.u32.wrap d = d := by rw [IntKind.wrap_u32']; omega
  have ua : IntKind.u32.wrap a = a := by rw [IntKind.wrap_u32']; omega
  have ub : IntKind.u32.wrap b = b := by rw [IntKind.wrap_u32']; omega
  have um := IntKind.wrap_u32' m
  have Hm : Hid (U32 (m % 4294967296)) := ⟨by omega, by omega⟩
  generalize hM : m % 4294967296 = M at *
  have HMM : Hid (m % 4294967296 = M) := hM
  have HH : Hid (mayV ⟨s.toList, d, a, b, m⟩ = true) := hm
  have HP : Hid (formV s.toList = ⟨87, o, g, f⟩) := hp
  unfold goodF at hk
  simp at hk
  obtain ⟨o0, o1⟩ := hk
  obtain ⟨d0, d1⟩ := rd
  obtain ⟨a0, a1⟩ := ra
  obtain ⟨b0, b1⟩ := rb
  have M0 : 0 ≤ M := by omega
  have M1 : M < 4294967296 := by omega
  clear hm hp hM
  go_enter Try.func41, Try.ntmps41
  go_wp2_with fail
  refine (HM _).mono ?_
  rintro e w1 ⟨rfl, hb⟩
  obtain ⟨hc, hf⟩ := bcell hb
  have hz := hb.size
  simp at hz
  go_wp2_with fail
  refine (HF _).mono ?_
  rintro e w' ⟨rfl, rfl⟩
  go_wp2_with fail
  obtain ⟨k0, k1, k2, k3, k4, q0, q1, z0, z1, f0', f1', f2', f3', bW⟩ := put_world (k := 87) (o := o) (g := g) (f := f) hb
  have HB : Hid _ := bW
  generalize (w1.alloc (.cells #[.int .u8 87, .int .u32 o, .int .u32 g, .int .u32 f] 132)).alloc (.cells #[.int .u8 87, .int .u32 o, .int .u32 g, .int .u32 f] 132) = W at *
  generalize hgf : w1.heap.size + 1 = G at *
  clear hb hc hf hz bW hgf
  go_quiet (fail)
  go_wp2_with (go_at_call 56; refine (rBits _ _ _ Hm _).mono ?_; rintro e w' ⟨rfl, rfl⟩)
  apply bodyPost_ret (hd := rfl)
  focus (simp [results, Try.results41, go_sem, q0, q1]; rfl)
  refine ⟨got_put ?_ rfl, ?_⟩
  · have e : putV ⟨s.toList, d, a, b, m⟩ = putF ⟨87, o, g, f⟩ d a b m := by unfold putV; rw [HP.out]
    rw [e]
    simp only [putF]
    rfl
  · exact (((HB.out.trans (below_drewN _ _ _)).setCell (by simp) _).setCell (by simp) _)
end Go.Proofs.Ytpjnefnngmlpjaa
