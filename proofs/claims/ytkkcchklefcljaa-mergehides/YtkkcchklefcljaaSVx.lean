/- A variable that holds an item, written field by field. No conditions. -/
import Derived.Test.YtkkcchklefcljaaSRow
namespace Go.Proofs.Ytkkcchklefcljaa.Clep
open Go.RowKit
set_option linter.unusedVariables false
set_option maxRecDepth 10000

theorem Vx.set0 {w : World} {R : Nat} {S K T V X : Int} (h : Vx w R S K T V X) (n : Int) : Vx (w.setCell ⟨R, 0, none⟩ (.int .i64 n)) R n K T V X := by
  obtain ⟨⟨h0, h1, h2, h3, h4⟩, f0, f1, f2, f3, f4⟩ := h
  simp only [Nat.zero_add] at h1 h2 h3 h4 f1 f2 f3 f4
  refine ⟨⟨?_, ?_, ?_, ?_, ?_⟩, by simpa using f0, by simpa using f1, by simpa using f2, by simpa using f3, by simpa using f4⟩
  · rw [World.cell?_setCell_same (h := h0)]
  · rw [World.cell?_setCell_other (h := by simp)]; exact h1
  · rw [World.cell?_setCell_other (h := by simp)]; exact h2
  · rw [World.cell?_setCell_other (h := by simp)]; exact h3
  · rw [World.cell?_setCell_other (h := by simp)]; exact h4
theorem Vx.set1 {w : World} {R : Nat} {S K T V X : Int} (h : Vx w R S K T V X) (n : Int) : Vx (w.setCell ⟨R, 1, none⟩ (.int .i64 n)) R S n T V X := by
  obtain ⟨⟨h0, h1, h2, h3, h4⟩, f0, f1, f2, f3, f4⟩ := h
  simp only [Nat.zero_add] at h1 h2 h3 h4 f1 f2 f3 f4
  refine ⟨⟨?_, ?_, ?_, ?_, ?_⟩, by simpa using f0, by simpa using f1, by simpa using f2, by simpa using f3, by simpa using f4⟩
  · rw [World.cell?_setCell_other (h := by simp)]; exact h0
  · rw [World.cell?_setCell_same (h := h1)]
  · rw [World.cell?_setCell_other (h := by simp)]; exact h2
  · rw [World.cell?_setCell_other (h := by simp)]; exact h3
  · rw [World.cell?_setCell_other (h := by simp)]; exact h4
theorem Vx.set2 {w : World} {R : Nat} {S K T V X : Int} (h : Vx w R S K T V X) (n : Int) : Vx (w.setCell ⟨R, 2, none⟩ (.int .u64 n)) R S K n V X := by
  obtain ⟨⟨h0, h1, h2, h3, h4⟩, f0, f1, f2, f3, f4⟩ := h
  simp only [Nat.zero_add] at h1 h2 h3 h4 f1 f2 f3 f4
  refine ⟨⟨?_, ?_, ?_, ?_, ?_⟩, by simpa using f0, by simpa using f1, by simpa using f2, by simpa using f3, by simpa using f4⟩
  · rw [World.cell?_setCell_other (h := by simp)]; exact h0
  · rw [World.cell?_setCell_other (h := by simp)]; exact h1
  · rw [World.cell?_setCell_same (h := h2)]
  · rw [World.cell?_setCell_other (h := by simp)]; exact h3
  · rw [World.cell?_setCell_other (h := by simp)]; exact h4
theorem Vx.set3 {w : World} {R : Nat} {S K T V X : Int} (h : Vx w R S K T V X) (n : Int) : Vx (w.setCell ⟨R, 3, none⟩ (.int .u64 n)) R S K T n X := by
  obtain ⟨⟨h0, h1, h2, h3, h4⟩, f0, f1, f2, f3, f4⟩ := h
  simp only [Nat.zero_add] at h1 h2 h3 h4 f1 f2 f3 f4
  refine ⟨⟨?_, ?_, ?_, ?_, ?_⟩, by simpa using f0, by simpa using f1, by simpa using f2, by simpa using f3, by simpa using f4⟩
  · rw [World.cell?_setCell_other (h := by simp)]; exact h0
  · rw [World.cell?_setCell_other (h := by simp)]; exact h1
  · rw [World.cell?_setCell_other (h := by simp)]; exact h2
  · rw [World.cell?_setCell_same (h := h3)]
  · rw [World.cell?_setCell_other (h := by simp)]; exact h4
theorem Vx.set4 {w : World} {R : Nat} {S K T V X : Int} (h : Vx w R S K T V X) (n : Int) : Vx (w.setCell ⟨R, 4, none⟩ (.int .i64 n)) R S K T V n := by
  obtain ⟨⟨h0, h1, h2, h3, h4⟩, f0, f1, f2, f3, f4⟩ := h
  simp only [Nat.zero_add] at h1 h2 h3 h4 f1 f2 f3 f4
  refine ⟨⟨?_, ?_, ?_, ?_, ?_⟩, by simpa using f0, by simpa using f1, by simpa using f2, by simpa using f3, by simpa using f4⟩
  · rw [World.cell?_setCell_other (h := by simp)]; exact h0
  · rw [World.cell?_setCell_other (h := by simp)]; exact h1
  · rw [World.cell?_setCell_other (h := by simp)]; exact h2
  · rw [World.cell?_setCell_other (h := by simp)]; exact h3
  · rw [World.cell?_setCell_same (h := h4)]

/-- An item stored whole. -/
def putI (w : World) (R : Nat) (S K T V X : Int) : World := ((((w.setCell ⟨R, 0, none⟩ (.int .i64 S)).setCell ⟨R, 1, none⟩ (.int .i64 K)).setCell ⟨R, 2, none⟩ (.int .u64 T)).setCell ⟨R, 3, none⟩ (.int .u64 V)).setCell ⟨R, 4, none⟩ (.int .i64 X)
theorem Vx.put {w : World} {R : Nat} {S0 K0 T0 V0 X0 : Int} (h : Vx w R S0 K0 T0 V0 X0) (S K T V X : Int) : Vx (putI w R S K T V X) R S K T V X := ((((h.set0 S).set1 K).set2 T).set3 V).set4 X
theorem gb_putI (w : World) (R : Nat) (S K T V X : Int) : w.grownBy (putI w R S K T V X) (some R) :=
  ((((gb_set w ⟨R, 0, none⟩ _).trans (gb_set _ ⟨R, 1, none⟩ _)).trans (gb_set _ ⟨R, 2, none⟩ _)).trans (gb_set _ ⟨R, 3, none⟩ _)).trans (gb_set _ ⟨R, 4, none⟩ _)
theorem Vx.keep {w w' : World} {R : Nat} {S K T V X : Int} (h : Vx w R S K T V X) (hb : Below w.heap.size w w') : Vx w' R S K T V X := h.grown (gb_below hb none) (by simp)

end Go.Proofs.Ytkkcchklefcljaa.Clep
