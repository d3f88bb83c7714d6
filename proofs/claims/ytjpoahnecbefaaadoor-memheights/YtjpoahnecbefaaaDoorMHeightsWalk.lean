/- MemHeights: a key's height is the one that the document says, walked. Conditions: the table of math/bits reads as its initialiser lays it. -/
import Derived.Test.YtjpoahnecbefaaaDoorMAwake
import Derived.Test.YtjpoahnecbefaaaDoorSLaw
namespace Go.Proofs.YtjpoahnecbefaaaDoor.Clep
open Go.RowKit
set_option linter.unusedVariables false

set_option maxRecDepth 100000 in
set_option maxHeartbeats 1600000 in
theorem heights_core (S K T V X v value : Int) (w : World) (hwf : It.wf ⟨S, K, T, V, X⟩) (hv : 0 ≤ v ∧ v ≤ 18446744073709551615) (hTb : Tab w) (o : Bool) (ho : Hid (okI S K T V X = o)) :
    Calls Tryd.prog 5 #[.agg #[.int .i64 S, .int .i64 K, .int .u64 T, .int .u64 V, .int .i64 X], .int .u64 v, .int .i64 value] w fun e w' => e = .returned (.bool true) ∧ Below w.heap.size w w' := by
  obtain ⟨R, hR⟩ : ∃ R, R = w.heap.size := ⟨_, rfl⟩
  have a1 := (Below.refl _ w).alloc (Nat.le_refl _) (Obj.cells #[Value.int IntKind.i64 S, Value.int IntKind.i64 K, Value.int IntKind.u64 T, Value.int IntKind.u64 V, Value.int IntKind.i64 X] 32)
  have v1 := vi_new w S K T V X
  obtain ⟨w1, hw1⟩ : ∃ w1, w1 = w.alloc (Obj.cells #[Value.int IntKind.i64 S, Value.int IntKind.i64 K, Value.int IntKind.u64 T, Value.int IntKind.u64 V, Value.int IntKind.i64 X] 32) := ⟨_, rfl⟩
  rw [← hw1] at a1 v1
  rw [← hR] at v1
  have C1 := hide (refok_any S K T V X w1)
  rw [ho.out] at C1
  have BB1 := hide a1
  have VX1 := hide v1
  have T1 := hide (hTb.keep a1)
  have HT := hide hwf.2.2.1
  clear a1 v1 hTb hwf
  go_enter Tryd.func5, Tryd.ntmps5
  go_wp2_with fail
  rw [← hw1, ← hR]
  clear hw1 hR
  refine C1.out.mono ?_
  rintro e w2 ⟨rfl, b2⟩
  have BB2 := hide (bmore BB1.out b2)
  have VX2 := hide (VX1.out.keep b2)
  have T2 := hide (T1.out.keep b2)
  clear b2 C1
  cases o with
  | false =>
    go_wp2_with fail
    refine (mawake_any w2 T2.out).mono ?_
    rintro e w3 ⟨rfl, b3⟩
    have BB3 := hide (bmore BB2.out b3)
    clear b3
    go_wp2
    go_ret
    exact ⟨rfl, BB3.out⟩
  | true =>
    have gx := VX2.out
    unfold Vi at gx
    simp only [Nat.zero_add] at gx
    obtain ⟨y0, y1, y2, y3, y4⟩ := gx
    by_cases hK : K = 2
    · subst hK
      obtain ⟨R1, hR1⟩ : ∃ R1, R1 = w2.heap.size := ⟨_, rfl⟩
      have a3 := (Below.refl _ w2).alloc (Nat.le_refl _) (Obj.cells #[Value.int IntKind.i64 S, Value.int IntKind.i64 2, Value.int IntKind.u64 T, Value.int IntKind.u64 (IntKind.u64.wrap (bits BinOp.and IntKind.u64 v 281474976710655 + 1)), Value.int IntKind.i64 value] 32)
      have u3 := vi_new w2 S 2 T (IntKind.u64.wrap (bits BinOp.and IntKind.u64 v 281474976710655 + 1)) value
      have k3 := VX2.out.keep a3
      have T3 := hide (T2.out.keep a3)
      have BB3 := hide (bmore BB2.out a3)
      have VR3 := hide k3
      unfold Vi at k3
      simp only [Nat.zero_add] at k3
      obtain ⟨z0, z1, z2, z3, z4⟩ := k3
      rw [← hR1] at u3
      have VY3 := hide u3
      obtain ⟨w3, hw3⟩ : ∃ w3, w3 = w2.alloc (Obj.cells #[Value.int IntKind.i64 S, Value.int IntKind.i64 2, Value.int IntKind.u64 T, Value.int IntKind.u64 (IntKind.u64.wrap (bits BinOp.and IntKind.u64 v 281474976710655 + 1)), Value.int IntKind.i64 value] 32) := ⟨_, rfl⟩
      rw [← hw3] at T3 BB3 VR3 VY3
      clear a3 u3
      go_wp2_with fail
      rw [← hw3, ← hR1]
      clear hw3 hR1 z0 z1 z2 z3 z4 y0 y1 y2 y3 y4
      refine (height_any S 2 T V X w3 HT.out T3.out).mono ?_
      rintro e w4 ⟨rfl, b4⟩
      have T4 := hide (T3.out.keep b4)
      have BB4 := hide (bmore BB3.out b4)
      have VR4 := hide (VR3.out.keep b4)
      have VY4 := hide (VY3.out.keep b4)
      have gx := VR4.out
      unfold Vi at gx
      simp only [Nat.zero_add] at gx
      obtain ⟨y0, y1, y2, y3, y4⟩ := gx
      have hle := hgt_le S 2 T
      have C5 := hide (refheight_any S 2 T V X w4 HT.out)
      have C6 := hide (fun W (hW : Tab W) => height_any S 2 T (IntKind.u64.wrap (bits BinOp.and IntKind.u64 v 281474976710655 + 1)) value W HT.out hW)
      generalize hgt S 2 T = hg at *
      clear b4
      go_wp2_with fail
      refine C5.out.mono ?_
      rintro e w5 ⟨rfl, b5⟩
      have T5 := hide (T4.out.keep b5)
      have BB5 := hide (bmore BB4.out b5)
      have gx := VY4.out.keep b5
      unfold Vi at gx
      simp only [Nat.zero_add] at gx
      clear y0 y1 y2 y3 y4 b5
      obtain ⟨y0, y1, y2, y3, y4⟩ := gx
      go_wp2_with fail
      refine (C6.out _ T5.out).mono ?_
      rintro e w6 ⟨rfl, b6⟩
      have T6 := hide (T5.out.keep b6)
      have BB6 := hide (bmore BB5.out b6)
      clear b6 y0 y1 y2 y3 y4
      have hg1 : (1 : Int) ≤ (hg : Int) := by omega
      have hg6 : (hg : Int) ≤ 6 := by omega
      go_wp2_with fail
      refine (mawake_any w6 T6.out).mono ?_
      rintro e w7 ⟨rfl, b7⟩
      have BB7 := hide (bmore BB6.out b7)
      clear b7
      go_wp2
      go_ret
      exact ⟨rfl, BB7.out⟩
    · have hK' : ¬ ((K : Int) = 2) := hK
      obtain ⟨R1, hR1⟩ : ∃ R1, R1 = w2.heap.size := ⟨_, rfl⟩
      have a3 := (Below.refl _ w2).alloc (Nat.le_refl _) (Obj.cells #[Value.int IntKind.i64 S, Value.int IntKind.i64 K, Value.int IntKind.u64 T, Value.int IntKind.u64 (IntKind.u64.wrap (bits BinOp.and IntKind.u64 v 281474976710655 + 1)), Value.int IntKind.i64 X] 32)
      have u3 := vi_new w2 S K T (IntKind.u64.wrap (bits BinOp.and IntKind.u64 v 281474976710655 + 1)) X
      have k3 := VX2.out.keep a3
      have T3 := hide (T2.out.keep a3)
      have BB3 := hide (bmore BB2.out a3)
      have VR3 := hide k3
      unfold Vi at k3
      simp only [Nat.zero_add] at k3
      obtain ⟨z0, z1, z2, z3, z4⟩ := k3
      rw [← hR1] at u3
      have VY3 := hide u3
      obtain ⟨w3, hw3⟩ : ∃ w3, w3 = w2.alloc (Obj.cells #[Value.int IntKind.i64 S, Value.int IntKind.i64 K, Value.int IntKind.u64 T, Value.int IntKind.u64 (IntKind.u64.wrap (bits BinOp.and IntKind.u64 v 281474976710655 + 1)), Value.int IntKind.i64 X] 32) := ⟨_, rfl⟩
      rw [← hw3] at T3 BB3 VR3 VY3
      clear a3 u3
      go_wp2_with fail
      rw [← hw3, ← hR1]
      clear hw3 hR1 z0 z1 z2 z3 z4 y0 y1 y2 y3 y4
      refine (height_any S K T V X w3 HT.out T3.out).mono ?_
      rintro e w4 ⟨rfl, b4⟩
      have T4 := hide (T3.out.keep b4)
      have BB4 := hide (bmore BB3.out b4)
      have VR4 := hide (VR3.out.keep b4)
      have VY4 := hide (VY3.out.keep b4)
      have gx := VR4.out
      unfold Vi at gx
      simp only [Nat.zero_add] at gx
      obtain ⟨y0, y1, y2, y3, y4⟩ := gx
      have hle := hgt_le S K T
      have C5 := hide (refheight_any S K T V X w4 HT.out)
      have C6 := hide (fun W (hW : Tab W) => height_any S K T (IntKind.u64.wrap (bits BinOp.and IntKind.u64 v 281474976710655 + 1)) X W HT.out hW)
      generalize hgt S K T = hg at *
      clear b4
      go_wp2_with fail
      refine C5.out.mono ?_
      rintro e w5 ⟨rfl, b5⟩
      have T5 := hide (T4.out.keep b5)
      have BB5 := hide (bmore BB4.out b5)
      have gx := VY4.out.keep b5
      unfold Vi at gx
      simp only [Nat.zero_add] at gx
      clear y0 y1 y2 y3 y4 b5
      obtain ⟨y0, y1, y2, y3, y4⟩ := gx
      go_wp2_with fail
      refine (C6.out _ T5.out).mono ?_
      rintro e w6 ⟨rfl, b6⟩
      have T6 := hide (T5.out.keep b6)
      have BB6 := hide (bmore BB5.out b6)
      clear b6 y0 y1 y2 y3 y4
      have hg1 : (1 : Int) ≤ (hg : Int) := by omega
      have hg6 : (hg : Int) ≤ 6 := by omega
      go_wp2_with fail
      refine (mawake_any w6 T6.out).mono ?_
      rintro e w7 ⟨rfl, b7⟩
      have BB7 := hide (bmore BB6.out b7)
      clear b7
      go_wp2
      go_ret
      exact ⟨rfl, BB7.out⟩

theorem heights_any (x : It) (v value : Int) (w : World) (hx : x.wf) (hv : 0 ≤ v ∧ v ≤ 18446744073709551615) (hTb : Tab w) :
    Calls Tryd.prog 5 #[.agg #[.int .i64 x.S, .int .i64 x.K, .int .u64 x.T, .int .u64 x.V, .int .i64 x.X], .int .u64 v, .int .i64 value] w fun e w' => e = .returned (.bool true) ∧ Below w.heap.size w w' :=
  heights_core x.S x.K x.T x.V x.X v value w hx hv hTb _ (hide rfl)

end Go.Proofs.YtjpoahnecbefaaaDoor.Clep
