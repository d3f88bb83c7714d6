/- What the reader of package item does when called for an item: for whatever is left. Conditions: its two cells hold what is said. -/
import Derived.Test.YtfmofkkjnepbcabIReader
import Derived.Maps.Range
namespace Go.Proofs.Ytfmofkkjnepbcab.Clep
open Go.RowKit
set_option linter.unusedVariables false

/-- A variable that holds an item, and may be written. -/
def Vx (w : World) (R : Nat) (S K T V X : Int) : Prop := Vi w R 0 S K T V X ∧ Vf w R 0
theorem Vx.lt {w : World} {R : Nat} {S K T V X : Int} (h : Vx w R S K T V X) : R < w.heap.size := h.1.lt
theorem Vx.grown {w w' : World} {R : Nat} {S K T V X : Int} {row : Option Nat} (h : Vx w R S K T V X) (hg : w.grownBy w' row) (hne : some R ≠ row) : Vx w' R S K T V X := by
  have hb := hg.block R h.lt hne
  refine ⟨h.1.grown hg hne, ?_⟩
  obtain ⟨h0, h1, h2, h3, h4⟩ := h.2
  exact ⟨(World.frozen?_of_block (a := ⟨R, 0, none⟩) (w := w) hb).trans h0, (World.frozen?_of_block (a := ⟨R, 0 + 1, none⟩) (w := w) hb).trans h1, (World.frozen?_of_block (a := ⟨R, 0 + 2, none⟩) (w := w) hb).trans h2, (World.frozen?_of_block (a := ⟨R, 0 + 3, none⟩) (w := w) hb).trans h3, (World.frozen?_of_block (a := ⟨R, 0 + 4, none⟩) (w := w) hb).trans h4⟩
theorem vx_new (w : World) (S K T V X : Int) : Vx (w.alloc (Obj.cells #[Value.int IntKind.i64 S, Value.int IntKind.i64 K, Value.int IntKind.u64 T, Value.int IntKind.u64 V, Value.int IntKind.i64 X] 25)) w.heap.size S K T V X := ⟨vi_new w S K T V X, vf_new w S K T V X⟩
theorem Vx.set0 {w : World} {R : Nat} {S K T V X : Int} (h : Vx w R S K T V X) (n : Int) : Vx (w.setCell ⟨R, 0, none⟩ (.int .i64 n)) R n K T V X := by
  obtain ⟨⟨h0, h1, h2, h3, h4⟩, f0, f1, f2, f3, f4⟩ := h
  simp only [Nat.zero_add] at h1 h2 h3 h4 f1 f2 f3 f4
  refine ⟨⟨?_, ?_, ?_, ?_, ?_⟩, by simpa using f0, by simpa using f1, by simpa using f2, by simpa using f3, by simpa using f4⟩
  · rw [World.cell?_setCell_same (h := h0)]
  · rw [World.cell?_setCell_other (h := by simp)]; exact h1
  · rw [World.cell?_setCell_other (h := by simp)]; exact h2
  · rw [World.cell?_setCell_other (h := by simp)]; exact h3
  · rw [World.cell?_setCell_other (h := by simp)]; exact h4
theorem Vx.set1 {w : World} {R : Nat} {S K T V X : Int} (h : Vx w R S K T V X) (n : Int) : Vx (w.setCell ⟨R, 1, none⟩ (.int .i64 n)) R S n T V X := by
  obtain ⟨⟨h0, h1, h2, h3, h4⟩, f0, f1, f2, f3, f4⟩ := h
  simp only [Nat.zero_add] at h1 h2 h3 h4 f1 f2 f3 f4
  refine ⟨⟨?_, ?_, ?_, ?_, ?_⟩, by simpa using f0, by simpa using f1, by simpa using f2, by simpa using f3, by simpa using f4⟩
  · rw [World.cell?_setCell_other (h := by simp)]; exact h0
  · rw [World.cell?_setCell_same (h := h1)]
  · rw [World.cell?_setCell_other (h := by simp)]; exact h2
  · rw [World.cell?_setCell_other (h := by simp)]; exact h3
  · rw [World.cell?_setCell_other (h := by simp)]; exact h4
theorem Vx.set2 {w : World} {R : Nat} {S K T V X : Int} (h : Vx w R S K T V X) (n : Int) : Vx (w.setCell ⟨R, 2, none⟩ (.int .u64 n)) R S K n V X := by
  obtain ⟨⟨h0, h1, h2, h3, h4⟩, f0, f1, f2, f3, f4⟩ := h
  simp only [Nat.zero_add] at h1 h2 h3 h4 f1 f2 f3 f4
  refine ⟨⟨?_, ?_, ?_, ?_, ?_⟩, by simpa using f0, by simpa using f1, by simpa using f2, by simpa using f3, by simpa using f4⟩
  · rw [World.cell?_setCell_other (h := by simp)]; exact h0
  · rw [World.cell?_setCell_other (h := by simp)]; exact h1
  · rw [World.cell?_setCell_same (h := h2)]
  · rw [World.cell?_setCell_other (h := by simp)]; exact h3
  · rw [World.cell?_setCell_other (h := by simp)]; exact h4
theorem Vx.set3 {w : World} {R : Nat} {S K T V X : Int} (h : Vx w R S K T V X) (n : Int) : Vx (w.setCell ⟨R, 3, none⟩ (.int .u64 n)) R S K T n X := by
  obtain ⟨⟨h0, h1, h2, h3, h4⟩, f0, f1, f2, f3, f4⟩ := h
  simp only [Nat.zero_add] at h1 h2 h3 h4 f1 f2 f3 f4
  refine ⟨⟨?_, ?_, ?_, ?_, ?_⟩, by simpa using f0, by simpa using f1, by simpa using f2, by simpa using f3, by simpa using f4⟩
  · rw [World.cell?_setCell_other (h := by simp)]; exact h0
  · rw [World.cell?_setCell_other (h := by simp)]; exact h1
  · rw [World.cell?_setCell_other (h := by simp)]; exact h2
  · rw [World.cell?_setCell_same (h := h3)]
  · rw [World.cell?_setCell_other (h := by simp)]; exact h4
theorem Vx.set4 {w : World} {R : Nat} {S K T V X : Int} (h : Vx w R S K T V X) (n : Int) : Vx (w.setCell ⟨R, 4, none⟩ (.int .i64 n)) R S K T V n := by
  obtain ⟨⟨h0, h1, h2, h3, h4⟩, f0, f1, f2, f3, f4⟩ := h
  simp only [Nat.zero_add] at h1 h2 h3 h4 f1 f2 f3 f4
  refine ⟨⟨?_, ?_, ?_, ?_, ?_⟩, by simpa using f0, by simpa using f1, by simpa using f2, by simpa using f3, by simpa using f4⟩
  · rw [World.cell?_setCell_other (h := by simp)]; exact h0
  · rw [World.cell?_setCell_other (h := by simp)]; exact h1
  · rw [World.cell?_setCell_other (h := by simp)]; exact h2
  · rw [World.cell?_setCell_other (h := by simp)]; exact h3
  · rw [World.cell?_setCell_same (h := h4)]

/-- What an item comes to. -/
def item1 (s : List Int × Int) : It × List Int × Int :=
  let a := one1 s; let b := one1 a.2; let c := num1 b.2; let d := num1 c.2; let e := num1 d.2
  (⟨a.1, b.1, c.1, d.1, usgn e.1⟩, e.2)
theorem re_range {w : World} {B R : Nat} {zs : List Int} {e : Int} (h : Re w B R zs e) : ∀ z ∈ zs, 0 ≤ z ∧ z < 256 := by
  obtain ⟨⟨_, _, _, _, hb, _, _⟩, _⟩ := h
  exact bs_range hb
theorem num1_range (s : List Int × Int) (h : ∀ z ∈ s.1, 0 ≤ z ∧ z < 256) : 0 ≤ (num1 s).1 ∧ (num1 s).1 ≤ 18446744073709551615 := by
  unfold num1
  split
  · simp
  · have := tk_facts s.1 0 0 (by omega) h (by omega) (by simp)
    exact ⟨this.1, this.2.1⟩

end Go.Proofs.Ytfmofkkjnepbcab.Clep
