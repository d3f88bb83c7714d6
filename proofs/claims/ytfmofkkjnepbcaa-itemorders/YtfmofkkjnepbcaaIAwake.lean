/- What the statements' own function awake answers when called: true, in new memory alone. No conditions. -/
import Derived.Test.YtfmofkkjnepbcaaIBytes
namespace Go.Proofs.Ytfmofkkjnepbcaa.Clep
open Go.RowKit
set_option linter.unusedVariables false

theorem is_one (w : World) (S K T V X : Int) (hw : It.wf ⟨S, K, T, V, X⟩) : Is (w.alloc (Obj.cells #[Value.int IntKind.i64 S, Value.int IntKind.i64 K, Value.int IntKind.u64 T, Value.int IntKind.u64 V, Value.int IntKind.i64 X] 24)) (some ⟨w.heap.size, 0, none⟩) 1 1 [⟨S, K, T, V, X⟩] := by
  refine ⟨rfl, ⟨Nat.le_refl _, fun h => by cases h⟩, fun x hx => by rw [List.mem_singleton.1 hx]; exact hw, fun _ => ⟨w.heap.size, 0, rfl, fun i x hi => ?_⟩⟩
  cases i with
  | zero =>
    simp at hi
    subst hi
    exact vi_new w S K T V X
  | succ i => simp at hi

set_option maxHeartbeats 1000000 in
theorem awake5_any (w : World) : Calls Try.prog 21 #[] w fun e w' => e = .returned (.bool true) ∧ Below w.heap.size w w' := by
  have A0 := ((vi_new w 3 1 0 5 0).keep ((Below.refl _ _).alloc (Nat.le_refl _) (Obj.cells #[Value.int IntKind.i64 3, Value.int IntKind.i64 2, Value.int IntKind.u64 0, Value.int IntKind.u64 4, Value.int IntKind.i64 0] 24))).keep
    ((Below.refl _ _).alloc (Nat.le_refl _) (Obj.cells #[Value.int IntKind.i64 3, Value.int IntKind.i64 2, Value.int IntKind.u64 0, Value.int IntKind.u64 4, Value.int IntKind.i64 0] 24))
  have A1 := ((vi_new (w.alloc (Obj.cells #[Value.int IntKind.i64 3, Value.int IntKind.i64 1, Value.int IntKind.u64 0, Value.int IntKind.u64 5, Value.int IntKind.i64 0] 24)) 3 2 0 4 0)).keep
    ((Below.refl _ _).alloc (Nat.le_refl _) (Obj.cells #[Value.int IntKind.i64 3, Value.int IntKind.i64 2, Value.int IntKind.u64 0, Value.int IntKind.u64 4, Value.int IntKind.i64 0] 24))
  have I2 := is_one ((w.alloc (Obj.cells #[Value.int IntKind.i64 3, Value.int IntKind.i64 1, Value.int IntKind.u64 0, Value.int IntKind.u64 5, Value.int IntKind.i64 0] 24)).alloc (Obj.cells #[Value.int IntKind.i64 3, Value.int IntKind.i64 2, Value.int IntKind.u64 0, Value.int IntKind.u64 4, Value.int IntKind.i64 0] 24)) 3 2 0 4 0 (by unfold It.wf; simp)
  have B0 := (((Below.refl _ w).alloc (Nat.le_refl _) (Obj.cells #[Value.int IntKind.i64 3, Value.int IntKind.i64 1, Value.int IntKind.u64 0, Value.int IntKind.u64 5, Value.int IntKind.i64 0] 24)).alloc (by simp) (Obj.cells #[Value.int IntKind.i64 3, Value.int IntKind.i64 2, Value.int IntKind.u64 0, Value.int IntKind.u64 4, Value.int IntKind.i64 0] 24)).alloc (by simp; omega) (Obj.cells #[Value.int IntKind.i64 3, Value.int IntKind.i64 2, Value.int IntKind.u64 0, Value.int IntKind.u64 4, Value.int IntKind.i64 0] 24)
  rw [show (w.alloc (Obj.cells #[Value.int IntKind.i64 3, Value.int IntKind.i64 1, Value.int IntKind.u64 0, Value.int IntKind.u64 5, Value.int IntKind.i64 0] 24)).heap.size = w.heap.size + 1 from by simp] at A1
  rw [show ((w.alloc (Obj.cells #[Value.int IntKind.i64 3, Value.int IntKind.i64 1, Value.int IntKind.u64 0, Value.int IntKind.u64 5, Value.int IntKind.i64 0] 24)).alloc (Obj.cells #[Value.int IntKind.i64 3, Value.int IntKind.i64 2, Value.int IntKind.u64 0, Value.int IntKind.u64 4, Value.int IntKind.i64 0] 24)).heap.size = w.heap.size + 2 from by simp] at I2
  have HI := hide I2
  have HA0 := hide A0
  have HA1 := hide A1
  have HB0 := hide B0
  clear I2 A0 A1 B0
  go_enter Try.func21, Try.ntmps21
  go_wp2_with fail
  refine (bytes_any none (some ⟨w.heap.size + 2, 0, none⟩) 0 0 1 1 [] [⟨3, 2, 0, 4, 0⟩] _ (by omega) (by omega) (bs_nil _) HI.out (by decide)).mono ?_
  rintro e w1 ⟨v1, rfl, o1, b1⟩
  obtain ⟨ao1, cap1, hv1, -⟩ := ownAt_bs o1 (by decide)
  rw [show ([] ++ ibn [⟨3, 2, 0, 4, 0⟩] : List Int).length = 6 from by decide] at hv1
  rw [hv1]
  have C0 := hide (HA0.out.keep b1)
  have C1 := hide (HA1.out.keep b1)
  have HB1 := hide (bmore HB0.out b1)
  clear o1 b1 hv1 HI HA0 HA1 HB0
  have c0 := C0.out
  have c1 := C1.out
  unfold Vi at c0 c1
  obtain ⟨p0, p1, p2, p3, p4⟩ := c0
  obtain ⟨q0, q1, q2, q3, q4⟩ := c1
  go_wp2_with fail
  refine (hides_any 3 1 0 5 0 3 2 0 4 0 w1).mono ?_
  rw [show hidesI 3 1 5 3 2 4 = true from by decide]
  rintro e w2 ⟨rfl, b2⟩
  have D0 := C0.out.keep b2
  have D1 := C1.out.keep b2
  have HB2 := hide (bmore HB1.out b2)
  clear b2 C0 C1 HB1 p0 p1 p2 p3 p4 q0 q1 q2 q3 q4
  have C0 := hide D0
  have C1 := hide D1
  unfold Vi at D0 D1
  obtain ⟨p0, p1, p2, p3, p4⟩ := D0
  obtain ⟨q0, q1, q2, q3, q4⟩ := D1
  go_wp2_with fail
  refine (hides_any 3 2 0 4 0 3 1 0 5 0 w2).mono ?_
  rw [show hidesI 3 2 4 3 1 5 = false from by decide]
  rintro e w3 ⟨rfl, b3⟩
  have D0 := C0.out.keep b3
  have D1 := C1.out.keep b3
  have HB3 := hide (bmore HB2.out b3)
  clear b3 C0 C1 HB2 p0 p1 p2 p3 p4 q0 q1 q2 q3 q4
  have C0 := hide D0
  have C1 := hide D1
  unfold Vi at D0 D1
  obtain ⟨p0, p1, p2, p3, p4⟩ := D0
  obtain ⟨q0, q1, q2, q3, q4⟩ := D1
  go_wp2_with fail
  refine (ok_any 3 1 0 5 0 w3).mono ?_
  rw [show okI 3 1 0 5 0 = true from by decide]
  rintro e w4 ⟨rfl, b4⟩
  have D0 := C0.out.keep b4
  have D1 := C1.out.keep b4
  have HB4 := hide (bmore HB3.out b4)
  clear b4 C0 C1 HB3 p0 p1 p2 p3 p4 q0 q1 q2 q3 q4
  have C0 := hide D0
  have C1 := hide D1
  unfold Vi at D0 D1
  obtain ⟨p0, p1, p2, p3, p4⟩ := D0
  obtain ⟨q0, q1, q2, q3, q4⟩ := D1
  go_wp2_with fail
  refine (key_any 3 2 0 4 0 w4 (by omega)).mono ?_
  rintro e w5 ⟨v5, rfl, o5, b5⟩
  obtain ⟨ao5, cap5, hv5, -⟩ := ownAt_bs o5 (by decide)
  rw [show ([3 % 256, 2 % 256] ++ e8 0 8 : List Int).length = 10 from by decide] at hv5
  rw [hv5]
  have HB5 := hide (bmore HB4.out b5)
  clear o5 b5 hv5
  go_wp2
  go_ret
  exact ⟨rfl, HB5.out⟩

end Go.Proofs.Ytfmofkkjnepbcaa.Clep
