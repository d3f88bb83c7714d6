/- What merge.winner and merge.pair do when called: for any two rows of items. Conditions: at most a million items. -/
import Derived.Test.YtkkcchklefcljaaVClone
import Derived.Test.YtkkcchklefcljaaVMath
import Derived.Laws.MakeOwn
import Derived.Deep.CutRange
import Derived.Deep.CutBlock
import Derived.BigRegion
import Derived.Deep.RegionHeldLaw
namespace Go.Proofs.Ytkkcchklefcljaa.Clep
open Go.RowKit
set_option linter.unusedVariables false

/-- An item by value. -/
def ivL (x : It) : Value := .agg #[.int .i64 x.S, .int .i64 x.K, .int .u64 x.T, .int .u64 x.V, .int .i64 x.X]
theorem winner_results {w : World} {R : Nat} {S K T V X : Int} (h : Vx w R S K T V X) (ts : Array Value) (h2 : ts.getD 4 undef = .pointer (some ⟨R, 0, none⟩)) :
    (results Try.f40 ts).run Try.prog w = .ok (.agg #[.int .i64 S, .int .i64 K, .int .u64 T, .int .u64 V, .int .i64 X]) w := by
  obtain ⟨⟨h0, h1, h4, h5, h6⟩, -⟩ := h
  simp only [Nat.zero_add] at h1 h4 h5 h6
  rw [Array.getD_eq_getD_getElem?] at h2
  simp [results, Try.results40, go_sem, h0, h1, h2, h4, h5, h6]
/-- Which of two holds. -/
def wnr (x y : It) : It := if y.wins x then y else x
set_option maxRecDepth 100000 in
set_option maxHeartbeats 1000000 in
theorem winner_any (x y : It) (w : World) :
    Calls Try.prog 40 #[ivL x, ivL y] w fun e w' => e = .returned (ivL (wnr x y)) ∧ Below w.heap.size w w' := by
  obtain ⟨S, K, T, V, X⟩ := x
  obtain ⟨S1, K1, T1, V1, X1⟩ := y
  unfold ivL
  simp only
  have A0 := (Below.refl _ w).alloc (Nat.le_refl _) (Obj.cells #[.int .i64 S, .int .i64 K, .int .u64 T, .int .u64 V, .int .i64 X] 36)
  have V0 := vi_new w S K T V X
  obtain ⟨w1, hw1⟩ : ∃ w1, w1 = w.alloc (Obj.cells #[.int .i64 S, .int .i64 K, .int .u64 T, .int .u64 V, .int .i64 X] 36) := ⟨_, rfl⟩
  have hs1 : w1.heap.size = w.heap.size + 1 := by rw [hw1]; simp
  rw [← hw1] at A0 V0
  have A1 := (Below.refl _ w1).alloc (Nat.le_refl _) (Obj.cells #[.int .i64 S1, .int .i64 K1, .int .u64 T1, .int .u64 V1, .int .i64 X1] 36)
  have Va := vi_new w1 S1 K1 T1 V1 X1
  obtain ⟨w2, hw2⟩ : ∃ w2, w2 = w1.alloc (Obj.cells #[.int .i64 S1, .int .i64 K1, .int .u64 T1, .int .u64 V1, .int .i64 X1] 36) := ⟨_, rfl⟩
  have hs2 : w2.heap.size = w.heap.size + 1 + 1 := by rw [hw2]; simp [hs1]
  rw [← hw2] at A1 Va
  rw [hs1] at Va
  have A2 := (Below.refl _ w2).alloc (Nat.le_refl _) (Obj.cells #[.int .i64 0, .int .i64 0, .int .u64 0, .int .u64 0, .int .i64 0] 36)
  have V2 := vx_new w2 0 0 0 0 0
  obtain ⟨w3, hw3⟩ : ∃ w3, w3 = w2.alloc (Obj.cells #[.int .i64 0, .int .i64 0, .int .u64 0, .int .u64 0, .int .i64 0] 36) := ⟨_, rfl⟩
  rw [← hw3] at A2 V2
  rw [hs2] at V2
  have B3 := hide (bmore (bmore A0 A1) A2)
  have VA := hide (V0.keep (bmore A1 A2))
  have VB := hide (Va.keep A2)
  have VC := hide V2
  obtain ⟨o, ho⟩ : ∃ o, winsI V1 X1 V X = o := ⟨_, rfl⟩
  have HW := hide (wins_any S1 K1 T1 V1 X1 S K T V X w3)
  rw [ho] at HW
  have HO := hide (show (It.wins ⟨S1, K1, T1, V1, X1⟩ ⟨S, K, T, V, X⟩) = o from ho)
  clear ho A0 A1 A2 V0 Va V2 hs1 hs2
  go_enter Try.func40, Try.ntmps40
  go_wp2_with fail
  rw [← hw1, ← hw2, ← hw3]
  clear hw1 hw2 hw3
  obtain ⟨P0, hP0⟩ : ∃ P0, P0 = w.heap.size := ⟨_, rfl⟩
  have HP0 := hide hP0
  rw [← hP0] at VA VB VC ⊢
  clear hP0
  have ga := VA.out
  have gb := VB.out
  unfold Vi at ga gb
  simp only [Nat.zero_add] at ga gb
  obtain ⟨a0, a1, a2, a3, a4⟩ := ga
  obtain ⟨b0, b1, b2, b3, b4⟩ := gb
  go_wp2_with fail
  refine HW.out.mono ?_
  rintro e w4 ⟨rfl, hb4⟩
  have VA4 := hide (VA.out.keep hb4)
  have VB4 := hide (VB.out.keep hb4)
  have VC4 := hide (VC.out.keep hb4)
  have B4 := hide (bmore B3.out hb4)
  clear a0 a1 a2 a3 a4 b0 b1 b2 b3 b4 HW VA VB VC B3 hb4
  have ga := VA4.out
  have gb := VB4.out
  have gc := VC4.out
  unfold Vx Vi Vf at gc
  unfold Vi at ga gb
  simp only [Nat.zero_add] at ga gb gc
  obtain ⟨a0, a1, a2, a3, a4⟩ := ga
  obtain ⟨b0, b1, b2, b3, b4⟩ := gb
  obtain ⟨⟨y0, y1, y2, y3, y4⟩, z0, z1, z2, z3, z4⟩ := gc
  cases o with
  | true =>
    go_wp2_with fail
    refine bodyPost_ret (winner_results (VC4.out.put S1 K1 T1 V1 X1) _ rfl) rfl ⟨by unfold wnr; rw [HO.out]; rfl, ?_⟩
    exact B4.out.grown (gb_putI w4 (P0 + 1 + 1) S1 K1 T1 V1 X1) B4.out.size (fun j hj => by cases hj; rw [HP0.out]; omega)
  | false =>
    go_wp2_with fail
    refine bodyPost_ret (winner_results (VC4.out.put S K T V X) _ rfl) rfl ⟨by unfold wnr; rw [HO.out]; rfl, ?_⟩
    exact B4.out.grown (gb_putI w4 (P0 + 1 + 1) S K T V X) B4.out.size (fun j hj => by cases hj; rw [HP0.out]; omega)

end Go.Proofs.Ytkkcchklefcljaa.Clep
