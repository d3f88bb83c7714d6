/- A Disk of three files, and what Append, Sync and a Crash that keeps nothing make of it. No conditions but the bounds. -/
import Derived.Test.YthmfkfiblaamfaaDLoop
namespace Go.Proofs.Ythmfkfiblaamfaa.Clep
open Go.RowKit Go.Maps
set_option linter.unusedVariables false

def b0 : ByteArray := ⟨#[97]⟩
def b1 : ByteArray := ⟨#[98]⟩
def b2 : ByteArray := ⟨#[99]⟩
def nms : DataW Unit := .map [(.string [97], i64L 1), (.string [98], i64L 2), (.string [99], i64L 3)]
def nv (c : Nat) (X0 X1 X2 : List Int) (L0 L1 L2 : Nat) : St := ⟨1048576, c, 0, 0, false, 3, [⟨1, X0, L0⟩, ⟨2, X1, L1⟩, ⟨3, X2, L2⟩], nms, nms, []⟩
def nw1 : St := ⟨1048576, 1, 0, 0, false, 1, [⟨1, [], 0⟩], .map [(.string [97], i64L 1)], .map [], [⟨0, b0, ⟨#[]⟩, 1⟩]⟩
def nw2 : St := ⟨1048576, 2, 0, 0, false, 2, [⟨1, [], 0⟩, ⟨2, [], 0⟩], .map [(.string [97], i64L 1), (.string [98], i64L 2)], .map [], [⟨0, b0, ⟨#[]⟩, 1⟩, ⟨0, b1, ⟨#[]⟩, 2⟩]⟩
def nw3 : St := ⟨1048576, 3, 0, 0, false, 3, [⟨1, [], 0⟩, ⟨2, [], 0⟩, ⟨3, [], 0⟩], nms, .map [], [⟨0, b0, ⟨#[]⟩, 1⟩, ⟨0, b1, ⟨#[]⟩, 2⟩, ⟨0, b2, ⟨#[]⟩, 3⟩]⟩
def nwS (k : Nat) : St := if k = 0 then newS 1048576 else if k = 1 then nw1 else if k = 2 then nw2 else nw3
theorem nev1 : createS (newS 1048576) b0 = (0, nw1) := by kernel_rfl
theorem nev2 : createS nw1 b1 = (0, nw2) := by kernel_rfl
theorem nev3 : createS nw2 b2 = (0, nw3) := by kernel_rfl
theorem nev4 : syncDirS nw3 = (0, nv 4 [] [] [] 0 0 0) := by kernel_rfl
theorem nevS0 (c : Nat) (X0 X1 X2 : List Int) (L0 L1 L2 : Nat) : syncS (nv c X0 X1 X2 L0 L1 L2) b0 = (0, nv (c + 1) X0 X1 X2 X0.length L1 L2) := by kernel_rfl
theorem nevS1 (c : Nat) (X0 X1 X2 : List Int) (L0 L1 L2 : Nat) : syncS (nv c X0 X1 X2 L0 L1 L2) b1 = (0, nv (c + 1) X0 X1 X2 L0 X1.length L2) := by kernel_rfl
theorem nevS2 (c : Nat) (X0 X1 X2 : List Int) (L0 L1 L2 : Nat) : syncS (nv c X0 X1 X2 L0 L1 L2) b2 = (0, nv (c + 1) X0 X1 X2 L0 L1 X2.length) := by kernel_rfl
theorem nevA0 (c : Nat) (X0 X1 X2 p : List Int) (L0 L1 L2 : Nat) (h : X0.length + X1.length + X2.length + p.length ≤ 250000) : appendS (nv c X0 X1 X2 L0 L1 L2) b0 p = (0, nv (c + 1) (X0 ++ p) X1 X2 L0 L1 L2) := by
  have e : appendS (nv c X0 X1 X2 L0 L1 L2) b0 p = if 250000 < X0.length + p.length then (2, nv (c + 1) X0 X1 X2 L0 L1 L2) else if 1048576 < X0.length + (X1.length + (X2.length + 0)) + p.length then (15, nv (c + 1) X0 X1 X2 L0 L1 L2) else (0, nv (c + 1) (X0 ++ p) X1 X2 L0 L1 L2) := by kernel_rfl
  rw [e, if_neg (by omega), if_neg (by omega)]
theorem nevA1 (c : Nat) (X0 X1 X2 p : List Int) (L0 L1 L2 : Nat) (h : X0.length + X1.length + X2.length + p.length ≤ 250000) : appendS (nv c X0 X1 X2 L0 L1 L2) b1 p = (0, nv (c + 1) X0 (X1 ++ p) X2 L0 L1 L2) := by
  have e : appendS (nv c X0 X1 X2 L0 L1 L2) b1 p = if 250000 < X1.length + p.length then (2, nv (c + 1) X0 X1 X2 L0 L1 L2) else if 1048576 < X0.length + (X1.length + (X2.length + 0)) + p.length then (15, nv (c + 1) X0 X1 X2 L0 L1 L2) else (0, nv (c + 1) X0 (X1 ++ p) X2 L0 L1 L2) := by kernel_rfl
  rw [e, if_neg (by omega), if_neg (by omega)]
theorem nevA2 (c : Nat) (X0 X1 X2 p : List Int) (L0 L1 L2 : Nat) (h : X0.length + X1.length + X2.length + p.length ≤ 250000) : appendS (nv c X0 X1 X2 L0 L1 L2) b2 p = (0, nv (c + 1) X0 X1 (X2 ++ p) L0 L1 L2) := by
  have e : appendS (nv c X0 X1 X2 L0 L1 L2) b2 p = if 250000 < X2.length + p.length then (2, nv (c + 1) X0 X1 X2 L0 L1 L2) else if 1048576 < X0.length + (X1.length + (X2.length + 0)) + p.length then (15, nv (c + 1) X0 X1 X2 L0 L1 L2) else (0, nv (c + 1) X0 X1 (X2 ++ p) L0 L1 L2) := by kernel_rfl
  rw [e, if_neg (by omega), if_neg (by omega)]
theorem keep_zero (f : Fl) (r : List Int) : keepN f (0 :: r) = 0 := by
  unfold keepN
  split
  · rfl
  · simp
theorem rest_zero (f : Fl) (r : List Int) : ∃ r', restK f (0 :: 0 :: r) = 0 :: r' ∧ (r' = 0 :: r ∨ r' = r) := by
  unfold restK
  split
  · exact ⟨_, rfl, .inl rfl⟩
  · exact ⟨_, rfl, .inr rfl⟩
theorem nevC (c : Nat) (X0 X1 X2 : List Int) (L0 L1 L2 : Nat) : crashS (nv c X0 X1 X2 L0 L1 L2) [0, 0, 0] = nv c (X0.take L0) (X1.take L1) (X2.take L2) L0 L1 L2 := by
  have e : crashS (nv c X0 X1 X2 L0 L1 L2) [0, 0, 0] = nv c (X0.take (L0 + keepN ⟨1, X0, L0⟩ [0, 0, 0])) (X1.take (L1 + keepN ⟨2, X1, L1⟩ (restK ⟨1, X0, L0⟩ [0, 0, 0]))) (X2.take (L2 + keepN ⟨3, X2, L2⟩ (restK ⟨2, X1, L1⟩ (restK ⟨1, X0, L0⟩ [0, 0, 0]))))
      (L0 + keepN ⟨1, X0, L0⟩ [0, 0, 0]) (L1 + keepN ⟨2, X1, L1⟩ (restK ⟨1, X0, L0⟩ [0, 0, 0])) (L2 + keepN ⟨3, X2, L2⟩ (restK ⟨2, X1, L1⟩ (restK ⟨1, X0, L0⟩ [0, 0, 0]))) := by kernel_rfl
  obtain ⟨r1, h1, hr1⟩ := rest_zero ⟨1, X0, L0⟩ [0]
  rw [e, h1, keep_zero, keep_zero]
  rcases hr1 with rfl | rfl
  · obtain ⟨r2, h2, _⟩ := rest_zero ⟨2, X1, L1⟩ [0]
    rw [h2, keep_zero]
    rfl
  · obtain ⟨r2, h2, _⟩ := rest_zero ⟨2, X1, L1⟩ []
    rw [h2, keep_zero]
    rfl
theorem nevR0 (c : Nat) (X0 X1 X2 : List Int) (L0 L1 L2 : Nat) : readS (nv c X0 X1 X2 L0 L1 L2) b0 = (0, X0) := by kernel_rfl
theorem nevR1 (c : Nat) (X0 X1 X2 : List Int) (L0 L1 L2 : Nat) : readS (nv c X0 X1 X2 L0 L1 L2) b1 = (0, X1) := by kernel_rfl
theorem nevR2 (c : Nat) (X0 X1 X2 : List Int) (L0 L1 L2 : Nat) : readS (nv c X0 X1 X2 L0 L1 L2) b2 = (0, X2) := by kernel_rfl
theorem nev_rng {F : Nat → Prop} {w : World} {R c L0 L1 L2 : Nat} {X0 X1 X2 : List Int} (h : Held F w R (nv c X0 X1 X2 L0 L1 L2)) : (∀ z ∈ X0, 0 ≤ z ∧ z < 256) ∧ (∀ z ∈ X1, 0 ≤ z ∧ z < 256) ∧ (∀ z ∈ X2, 0 ≤ z ∧ z < 256) ∧ L0 ≤ X0.length ∧ L1 ≤ X1.length ∧ L2 ≤ X2.length := by
  obtain ⟨G, D, _⟩ := h
  have f0 := D.files ⟨1, X0, L0⟩ (by simp [nv])
  have f1 := D.files ⟨2, X1, L1⟩ (by simp [nv])
  have f2 := D.files ⟨3, X2, L2⟩ (by simp [nv])
  exact ⟨f0.rng, f1.rng, f2.rng, f0.lst, f1.lst, f2.lst⟩
/-- Three texts in a block. -/
def Str3 (T : TypeId) (w : World) (U : Nat) (x y z : ByteArray) : Prop := w.heap[U]? = some (.cells #[.string x, .string y, .string z] T (0, 0))
theorem Str3.cells {T : TypeId} {w : World} {U : Nat} {x y z : ByteArray} (h : Str3 T w U x y z) : w.cell? ⟨U, 0, none⟩ = some (.string x) ∧ w.cell? ⟨U, 1, none⟩ = some (.string y) ∧ w.cell? ⟨U, 2, none⟩ = some (.string z) ∧ (∀ i, w.frozen? ⟨U, i, none⟩ = false) ∧ U < w.heap.size :=
  ⟨cell_of h rfl, cell_of h rfl, cell_of h rfl, fun i => frozen_of_row w U i _ _ h, (Array.getElem?_eq_some_iff.1 h).1⟩
theorem Str3.set0 {T : TypeId} {w : World} {U : Nat} {x y z : ByteArray} (h : Str3 T w U x y z) (v : ByteArray) : Str3 T (w.setCell ⟨U, 0, none⟩ (.string v)) U v y z := by unfold Str3; rw [heap_setCell_same w U 0 _ _ _ h]; rfl
theorem Str3.set1 {T : TypeId} {w : World} {U : Nat} {x y z : ByteArray} (h : Str3 T w U x y z) (v : ByteArray) : Str3 T (w.setCell ⟨U, 1, none⟩ (.string v)) U x v z := by unfold Str3; rw [heap_setCell_same w U 1 _ _ _ h]; rfl
theorem Str3.set2 {T : TypeId} {w : World} {U : Nat} {x y z : ByteArray} (h : Str3 T w U x y z) (v : ByteArray) : Str3 T (w.setCell ⟨U, 2, none⟩ (.string v)) U x y v := by unfold Str3; rw [heap_setCell_same w U 2 _ _ _ h]; rfl
theorem Str3.other {T : TypeId} {w : World} {U : Nat} {x y z : ByteArray} (h : Str3 T w U x y z) {b : Nat} (hb : U ≠ b) (i : Nat) (v : Value) : Str3 T (w.setCell ⟨b, i, none⟩ v) U x y z := by unfold Str3; rw [heap_setCell_other w ⟨b, i, none⟩ U _ hb]; exact h

end Go.Proofs.Ythmfkfiblaamfaa.Clep
