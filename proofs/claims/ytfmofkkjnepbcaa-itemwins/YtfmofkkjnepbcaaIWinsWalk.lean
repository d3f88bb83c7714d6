/- The statement ItemWins, walked: for any three items. No conditions. -/
import Derived.Test.YtfmofkkjnepbcaaILaw
namespace Go.Proofs.Ytfmofkkjnepbcaa.Clep
open Go.RowKit
set_option linter.unusedVariables false

/-- Three items, in blocks of their own behind w. -/
def Three (w W : World) (a b c : It) : Prop := Vt W w.heap.size 0 a ∧ Vt W (w.heap.size + 1) 0 b ∧ Vt W (w.heap.size + 2) 0 c ∧ Below w.heap.size w W
theorem three_new (w : World) (a b c : It) : Three w (((w.alloc (Obj.cells #[Value.int IntKind.i64 a.S, Value.int IntKind.i64 a.K, Value.int IntKind.u64 a.T, Value.int IntKind.u64 a.V, Value.int IntKind.i64 a.X] 24)).alloc (Obj.cells #[Value.int IntKind.i64 b.S, Value.int IntKind.i64 b.K, Value.int IntKind.u64 b.T, Value.int IntKind.u64 b.V, Value.int IntKind.i64 b.X] 24)).alloc (Obj.cells #[Value.int IntKind.i64 c.S, Value.int IntKind.i64 c.K, Value.int IntKind.u64 c.T, Value.int IntKind.u64 c.V, Value.int IntKind.i64 c.X] 24)) a b c := by
  unfold Three Vt Vi
  refine ⟨?_, ?_, ?_, (((Below.refl _ w).alloc (Nat.le_refl _) _).alloc (by simp) _).alloc (by simp; omega) _⟩ <;> simp [go_sem]
theorem Three.keep {w W W' : World} {a b c : It} (h : Three w W a b c) (hb : Below W.heap.size W W') : Three w W' a b c := ⟨h.1.keep hb, h.2.1.keep hb, h.2.2.1.keep hb, bmore h.2.2.2 hb⟩

set_option maxHeartbeats 1000000 in
theorem wins_gtv (S0 K0 T0 V0 X0 S1 K1 T1 V1 X1 S2 K2 T2 V2 X2 : Int) (w : World) (haa : Hid (winsI V0 X0 V0 X0 = false)) (hp : Hid (winsI V0 X0 V1 X1 = true)) (hq : Hid (winsI V1 X1 V0 X0 = false)) (hr : Hid (winsI V1 X1 V2 X2 = false)) (hv : (V0 == V1) = false) :
    Calls Try.prog 6 #[.agg #[.int .i64 S0, .int .i64 K0, .int .u64 T0, .int .u64 V0, .int .i64 X0], .agg #[.int .i64 S1, .int .i64 K1, .int .u64 T1, .int .u64 V1, .int .i64 X1], .agg #[.int .i64 S2, .int .i64 K2, .int .u64 T2, .int .u64 V2, .int .i64 X2]] w fun e w' => e = .returned (.bool true) ∧ Below w.heap.size w w' := by
  have H0 := hide (three_new w ⟨S0, K0, T0, V0, X0⟩ ⟨S1, K1, T1, V1, X1⟩ ⟨S2, K2, T2, V2, X2⟩)
  go_enter Try.func6, Try.ntmps6
  have q := H0.out
  unfold Three Vt Vi at q
  simp only at q
  obtain ⟨⟨p0, p1, p2, p3, p4⟩, ⟨q0, q1, q2, q3, q4⟩, ⟨r0, r1, r2, r3, r4⟩, -⟩ := q
  go_wp2_with fail
  refine (wins_any S0 K0 T0 V0 X0 S0 K0 T0 V0 X0 _).mono ?_
  rw [haa.out]
  rintro e w1 ⟨rfl, b⟩
  have H1 := hide (H0.out.keep b)
  clear b H0 p0 p1 p2 p3 p4 q0 q1 q2 q3 q4 r0 r1 r2 r3 r4
  have q := H1.out
  unfold Three Vt Vi at q
  simp only at q
  obtain ⟨⟨p0, p1, p2, p3, p4⟩, ⟨q0, q1, q2, q3, q4⟩, ⟨r0, r1, r2, r3, r4⟩, -⟩ := q
  go_wp2_with fail
  refine (wins_any S0 K0 T0 V0 X0 S1 K1 T1 V1 X1 _).mono ?_
  rw [hp.out]
  rintro e w2 ⟨rfl, b⟩
  have H2 := hide (H1.out.keep b)
  clear b H1 p0 p1 p2 p3 p4 q0 q1 q2 q3 q4 r0 r1 r2 r3 r4
  have q := H2.out
  unfold Three Vt Vi at q
  simp only at q
  obtain ⟨⟨p0, p1, p2, p3, p4⟩, ⟨q0, q1, q2, q3, q4⟩, ⟨r0, r1, r2, r3, r4⟩, -⟩ := q
  go_wp2_with fail
  refine (wins_any S1 K1 T1 V1 X1 S0 K0 T0 V0 X0 _).mono ?_
  rw [hq.out]
  rintro e w3 ⟨rfl, b⟩
  have H3 := hide (H2.out.keep b)
  clear b H2 p0 p1 p2 p3 p4 q0 q1 q2 q3 q4 r0 r1 r2 r3 r4
  have q := H3.out
  unfold Three Vt Vi at q
  simp only at q
  obtain ⟨⟨p0, p1, p2, p3, p4⟩, ⟨q0, q1, q2, q3, q4⟩, ⟨r0, r1, r2, r3, r4⟩, -⟩ := q
  go_wp2_with fail
  refine (wins_any S0 K0 T0 V0 X0 S1 K1 T1 V1 X1 _).mono ?_
  rw [hp.out]
  rintro e w4 ⟨rfl, b⟩
  have H4 := hide (H3.out.keep b)
  clear b H3 p0 p1 p2 p3 p4 q0 q1 q2 q3 q4 r0 r1 r2 r3 r4
  have q := H4.out
  unfold Three Vt Vi at q
  simp only at q
  obtain ⟨⟨p0, p1, p2, p3, p4⟩, ⟨q0, q1, q2, q3, q4⟩, ⟨r0, r1, r2, r3, r4⟩, -⟩ := q
  go_wp2_with fail
  refine (wins_any S0 K0 T0 V0 X0 S1 K1 T1 V1 X1 _).mono ?_
  rw [hp.out]
  rintro e w5 ⟨rfl, b⟩
  have H5 := hide (H4.out.keep b)
  clear b H4 p0 p1 p2 p3 p4 q0 q1 q2 q3 q4 r0 r1 r2 r3 r4
  have q := H5.out
  unfold Three Vt Vi at q
  simp only at q
  obtain ⟨⟨p0, p1, p2, p3, p4⟩, ⟨q0, q1, q2, q3, q4⟩, ⟨r0, r1, r2, r3, r4⟩, -⟩ := q
  go_wp2_with fail
  refine (wins_any S1 K1 T1 V1 X1 S2 K2 T2 V2 X2 _).mono ?_
  rw [hr.out]
  rintro e w6 ⟨rfl, b⟩
  have H6 := hide (H5.out.keep b)
  clear b H5 p0 p1 p2 p3 p4 q0 q1 q2 q3 q4 r0 r1 r2 r3 r4
  go_wp2_with fail
  refine (awake5_any _).mono ?_
  rintro e w9 ⟨rfl, b⟩
  have HB := hide (bmore H6.out.2.2.2 b)
  clear b H6
  go_wp2
  go_ret
  exact ⟨rfl, HB.out⟩

set_option maxHeartbeats 1000000 in
theorem wins_gtx (S0 K0 T0 V0 X0 S1 K1 T1 V1 X1 S2 K2 T2 V2 X2 : Int) (w : World) (haa : Hid (winsI V0 X0 V0 X0 = false)) (hp : Hid (winsI V0 X0 V1 X1 = true)) (hq : Hid (winsI V1 X1 V0 X0 = false)) (hr : Hid (winsI V1 X1 V2 X2 = false)) (hv : (V0 == V1) = true) (hx : (X0 == X1) = false) :
    Calls Try.prog 6 #[.agg #[.int .i64 S0, .int .i64 K0, .int .u64 T0, .int .u64 V0, .int .i64 X0], .agg #[.int .i64 S1, .int .i64 K1, .int .u64 T1, .int .u64 V1, .int .i64 X1], .agg #[.int .i64 S2, .int .i64 K2, .int .u64 T2, .int .u64 V2, .int .i64 X2]] w fun e w' => e = .returned (.bool true) ∧ Below w.heap.size w w' := by
  have H0 := hide (three_new w ⟨S0, K0, T0, V0, X0⟩ ⟨S1, K1, T1, V1, X1⟩ ⟨S2, K2, T2, V2, X2⟩)
  go_enter Try.func6, Try.ntmps6
  have q := H0.out
  unfold Three Vt Vi at q
  simp only at q
  obtain ⟨⟨p0, p1, p2, p3, p4⟩, ⟨q0, q1, q2, q3, q4⟩, ⟨r0, r1, r2, r3, r4⟩, -⟩ := q
  go_wp2_with fail
  refine (wins_any S0 K0 T0 V0 X0 S0 K0 T0 V0 X0 _).mono ?_
  rw [haa.out]
  rintro e w1 ⟨rfl, b⟩
  have H1 := hide (H0.out.keep b)
  clear b H0 p0 p1 p2 p3 p4 q0 q1 q2 q3 q4 r0 r1 r2 r3 r4
  have q := H1.out
  unfold Three Vt Vi at q
  simp only at q
  obtain ⟨⟨p0, p1, p2, p3, p4⟩, ⟨q0, q1, q2, q3, q4⟩, ⟨r0, r1, r2, r3, r4⟩, -⟩ := q
  go_wp2_with fail
  refine (wins_any S0 K0 T0 V0 X0 S1 K1 T1 V1 X1 _).mono ?_
  rw [hp.out]
  rintro e w2 ⟨rfl, b⟩
  have H2 := hide (H1.out.keep b)
  clear b H1 p0 p1 p2 p3 p4 q0 q1 q2 q3 q4 r0 r1 r2 r3 r4
  have q := H2.out
  unfold Three Vt Vi at q
  simp only at q
  obtain ⟨⟨p0, p1, p2, p3, p4⟩, ⟨q0, q1, q2, q3, q4⟩, ⟨r0, r1, r2, r3, r4⟩, -⟩ := q
  go_wp2_with fail
  refine (wins_any S1 K1 T1 V1 X1 S0 K0 T0 V0 X0 _).mono ?_
  rw [hq.out]
  rintro e w3 ⟨rfl, b⟩
  have H3 := hide (H2.out.keep b)
  clear b H2 p0 p1 p2 p3 p4 q0 q1 q2 q3 q4 r0 r1 r2 r3 r4
  have q := H3.out
  unfold Three Vt Vi at q
  simp only at q
  obtain ⟨⟨p0, p1, p2, p3, p4⟩, ⟨q0, q1, q2, q3, q4⟩, ⟨r0, r1, r2, r3, r4⟩, -⟩ := q
  go_wp2_with fail
  refine (wins_any S0 K0 T0 V0 X0 S1 K1 T1 V1 X1 _).mono ?_
  rw [hp.out]
  rintro e w4 ⟨rfl, b⟩
  have H4 := hide (H3.out.keep b)
  clear b H3 p0 p1 p2 p3 p4 q0 q1 q2 q3 q4 r0 r1 r2 r3 r4
  have q := H4.out
  unfold Three Vt Vi at q
  simp only at q
  obtain ⟨⟨p0, p1, p2, p3, p4⟩, ⟨q0, q1, q2, q3, q4⟩, ⟨r0, r1, r2, r3, r4⟩, -⟩ := q
  go_wp2_with fail
  refine (wins_any S0 K0 T0 V0 X0 S1 K1 T1 V1 X1 _).mono ?_
  rw [hp.out]
  rintro e w5 ⟨rfl, b⟩
  have H5 := hide (H4.out.keep b)
  clear b H4 p0 p1 p2 p3 p4 q0 q1 q2 q3 q4 r0 r1 r2 r3 r4
  have q := H5.out
  unfold Three Vt Vi at q
  simp only at q
  obtain ⟨⟨p0, p1, p2, p3, p4⟩, ⟨q0, q1, q2, q3, q4⟩, ⟨r0, r1, r2, r3, r4⟩, -⟩ := q
  go_wp2_with fail
  refine (wins_any S1 K1 T1 V1 X1 S2 K2 T2 V2 X2 _).mono ?_
  rw [hr.out]
  rintro e w6 ⟨rfl, b⟩
  have H6 := hide (H5.out.keep b)
  clear b H5 p0 p1 p2 p3 p4 q0 q1 q2 q3 q4 r0 r1 r2 r3 r4
  go_wp2_with fail
  refine (awake5_any _).mono ?_
  rintro e w9 ⟨rfl, b⟩
  have HB := hide (bmore H6.out.2.2.2 b)
  clear b H6
  go_wp2
  go_ret
  exact ⟨rfl, HB.out⟩

set_option maxHeartbeats 1000000 in
theorem wins_gttv (S0 K0 T0 V0 X0 S1 K1 T1 V1 X1 S2 K2 T2 V2 X2 : Int) (w : World) (haa : Hid (winsI V0 X0 V0 X0 = false)) (hp : Hid (winsI V0 X0 V1 X1 = true)) (hq : Hid (winsI V1 X1 V0 X0 = false)) (hr : Hid (winsI V1 X1 V2 X2 = true)) (ht : Hid (winsI V0 X0 V2 X2 = true)) (hv : (V0 == V1) = false) :
    Calls Try.prog 6 #[.agg #[.int .i64 S0, .int .i64 K0, .int .u64 T0, .int .u64 V0, .int .i64 X0], .agg #[.int .i64 S1, .int .i64 K1, .int .u64 T1, .int .u64 V1, .int .i64 X1], .agg #[.int .i64 S2, .int .i64 K2, .int .u64 T2, .int .u64 V2, .int .i64 X2]] w fun e w' => e = .returned (.bool true) ∧ Below w.heap.size w w' := by
  have H0 := hide (three_new w ⟨S0, K0, T0, V0, X0⟩ ⟨S1, K1, T1, V1, X1⟩ ⟨S2, K2, T2, V2, X2⟩)
  go_enter Try.func6, Try.ntmps6
  have q := H0.out
  unfold Three Vt Vi at q
  simp only at q
  obtain ⟨⟨p0, p1, p2, p3, p4⟩, ⟨q0, q1, q2, q3, q4⟩, ⟨r0, r1, r2, r3, r4⟩, -⟩ := q
  go_wp2_with fail
  refine (wins_any S0 K0 T0 V0 X0 S0 K0 T0 V0 X0 _).mono ?_
  rw [haa.out]
  rintro e w1 ⟨rfl, b⟩
  have H1 := hide (H0.out.keep b)
  clear b H0 p0 p1 p2 p3 p4 q0 q1 q2 q3 q4 r0 r1 r2 r3 r4
  have q := H1.out
  unfold Three Vt Vi at q
  simp only at q
  obtain ⟨⟨p0, p1, p2, p3, p4⟩, ⟨q0, q1, q2, q3, q4⟩, ⟨r0, r1, r2, r3, r4⟩, -⟩ := q
  go_wp2_with fail
  refine (wins_any S0 K0 T0 V0 X0 S1 K1 T1 V1 X1 _).mono ?_
  rw [hp.out]
  rintro e w2 ⟨rfl, b⟩
  have H2 := hide (H1.out.keep b)
  clear b H1 p0 p1 p2 p3 p4 q0 q1 q2 q3 q4 r0 r1 r2 r3 r4
  have q := H2.out
  unfold Three Vt Vi at q
  simp only at q
  obtain ⟨⟨p0, p1, p2, p3, p4⟩, ⟨q0, q1, q2, q3, q4⟩, ⟨r0, r1, r2, r3, r4⟩, -⟩ := q
  go_wp2_with fail
  refine (wins_any S1 K1 T1 V1 X1 S0 K0 T0 V0 X0 _).mono ?_
  rw [hq.out]
  rintro e w3 ⟨rfl, b⟩
  have H3 := hide (H2.out.keep b)
  clear b H2 p0 p1 p2 p3 p4 q0 q1 q2 q3 q4 r0 r1 r2 r3 r4
  have q := H3.out
  unfold Three Vt Vi at q
  simp only at q
  obtain ⟨⟨p0, p1, p2, p3, p4⟩, ⟨q0, q1, q2, q3, q4⟩, ⟨r0, r1, r2, r3, r4⟩, -⟩ := q
  go_wp2_with fail
  refine (wins_any S0 K0 T0 V0 X0 S1 K1 T1 V1 X1 _).mono ?_
  rw [hp.out]
  rintro e w4 ⟨rfl, b⟩
  have H4 := hide (H3.out.keep b)
  clear b H3 p0 p1 p2 p3 p4 q0 q1 q2 q3 q4 r0 r1 r2 r3 r4
  have q := H4.out
  unfold Three Vt Vi at q
  simp only at q
  obtain ⟨⟨p0, p1, p2, p3, p4⟩, ⟨q0, q1, q2, q3, q4⟩, ⟨r0, r1, r2, r3, r4⟩, -⟩ := q
  go_wp2_with fail
  refine (wins_any S0 K0 T0 V0 X0 S1 K1 T1 V1 X1 _).mono ?_
  rw [hp.out]
  rintro e w5 ⟨rfl, b⟩
  have H5 := hide (H4.out.keep b)
  clear b H4 p0 p1 p2 p3 p4 q0 q1 q2 q3 q4 r0 r1 r2 r3 r4
  have q := H5.out
  unfold Three Vt Vi at q
  simp only at q
  obtain ⟨⟨p0, p1, p2, p3, p4⟩, ⟨q0, q1, q2, q3, q4⟩, ⟨r0, r1, r2, r3, r4⟩, -⟩ := q
  go_wp2_with fail
  refine (wins_any S1 K1 T1 V1 X1 S2 K2 T2 V2 X2 _).mono ?_
  rw [hr.out]
  rintro e w6 ⟨rfl, b⟩
  have H6 := hide (H5.out.keep b)
  clear b H5 p0 p1 p2 p3 p4 q0 q1 q2 q3 q4 r0 r1 r2 r3 r4
  have q := H6.out
  unfold Three Vt Vi at q
  simp only at q
  obtain ⟨⟨p0, p1, p2, p3, p4⟩, ⟨q0, q1, q2, q3, q4⟩, ⟨r0, r1, r2, r3, r4⟩, -⟩ := q
  go_wp2_with fail
  refine (wins_any S0 K0 T0 V0 X0 S2 K2 T2 V2 X2 _).mono ?_
  rw [ht.out]
  rintro e w7 ⟨rfl, b⟩
  have H7 := hide (H6.out.keep b)
  clear b H6 p0 p1 p2 p3 p4 q0 q1 q2 q3 q4 r0 r1 r2 r3 r4
  go_wp2_with fail
  refine (awake5_any _).mono ?_
  rintro e w9 ⟨rfl, b⟩
  have HB := hide (bmore H7.out.2.2.2 b)
  clear b H7
  go_wp2
  go_ret
  exact ⟨rfl, HB.out⟩

set_option maxHeartbeats 1000000 in
theorem wins_gttx (S0 K0 T0 V0 X0 S1 K1 T1 V1 X1 S2 K2 T2 V2 X2 : Int) (w : World) (haa : Hid (winsI V0 X0 V0 X0 = false)) (hp : Hid (winsI V0 X0 V1 X1 = true)) (hq : Hid (winsI V1 X1 V0 X0 = false)) (hr : Hid (winsI V1 X1 V2 X2 = true)) (ht : Hid (winsI V0 X0 V2 X2 = true)) (hv : (V0 == V1) = true) (hx : (X0 == X1) = false) :
    Calls Try.prog 6 #[.agg #[.int .i64 S0, .int .i64 K0, .int .u64 T0, .int .u64 V0, .int .i64 X0], .agg #[.int .i64 S1, .int .i64 K1, .int .u64 T1, .int .u64 V1, .int .i64 X1], .agg #[.int .i64 S2, .int .i64 K2, .int .u64 T2, .int .u64 V2, .int .i64 X2]] w fun e w' => e = .returned (.bool true) ∧ Below w.heap.size w w' := by
  have H0 := hide (three_new w ⟨S0, K0, T0, V0, X0⟩ ⟨S1, K1, T1, V1, X1⟩ ⟨S2, K2, T2, V2, X2⟩)
  go_enter Try.func6, Try.ntmps6
  have q := H0.out
  unfold Three Vt Vi at q
  simp only at q
  obtain ⟨⟨p0, p1, p2, p3, p4⟩, ⟨q0, q1, q2, q3, q4⟩, ⟨r0, r1, r2, r3, r4⟩, -⟩ := q
  go_wp2_with fail
  refine (wins_any S0 K0 T0 V0 X0 S0 K0 T0 V0 X0 _).mono ?_
  rw [haa.out]
  rintro e w1 ⟨rfl, b⟩
  have H1 := hide (H0.out.keep b)
  clear b H0 p0 p1 p2 p3 p4 q0 q1 q2 q3 q4 r0 r1 r2 r3 r4
  have q := H1.out
  unfold Three Vt Vi at q
  simp only at q
  obtain ⟨⟨p0, p1, p2, p3, p4⟩, ⟨q0, q1, q2, q3, q4⟩, ⟨r0, r1, r2, r3, r4⟩, -⟩ := q
  go_wp2_with fail
  refine (wins_any S0 K0 T0 V0 X0 S1 K1 T1 V1 X1 _).mono ?_
  rw [hp.out]
  rintro e w2 ⟨rfl, b⟩
  have H2 := hide (H1.out.keep b)
  clear b H1 p0 p1 p2 p3 p4 q0 q1 q2 q3 q4 r0 r1 r2 r3 r4
  have q := H2.out
  unfold Three Vt Vi at q
  simp only at q
  obtain ⟨⟨p0, p1, p2, p3, p4⟩, ⟨q0, q1, q2, q3, q4⟩, ⟨r0, r1, r2, r3, r4⟩, -⟩ := q
  go_wp2_with fail
  refine (wins_any S1 K1 T1 V1 X1 S0 K0 T0 V0 X0 _).mono ?_
  rw [hq.out]
  rintro e w3 ⟨rfl, b⟩
  have H3 := hide (H2.out.keep b)
  clear b H2 p0 p1 p2 p3 p4 q0 q1 q2 q3 q4 r0 r1 r2 r3 r4
  have q := H3.out
  unfold Three Vt Vi at q
  simp only at q
  obtain ⟨⟨p0, p1, p2, p3, p4⟩, ⟨q0, q1, q2, q3, q4⟩, ⟨r0, r1, r2, r3, r4⟩, -⟩ := q
  go_wp2_with fail
  refine (wins_any S0 K0 T0 V0 X0 S1 K1 T1 V1 X1 _).mono ?_
  rw [hp.out]
  rintro e w4 ⟨rfl, b⟩
  have H4 := hide (H3.out.keep b)
  clear b H3 p0 p1 p2 p3 p4 q0 q1 q2 q3 q4 r0 r1 r2 r3 r4
  have q := H4.out
  unfold Three Vt Vi at q
  simp only at q
  obtain ⟨⟨p0, p1, p2, p3, p4⟩, ⟨q0, q1, q2, q3, q4⟩, ⟨r0, r1, r2, r3, r4⟩, -⟩ := q
  go_wp2_with fail
  refine (wins_any S0 K0 T0 V0 X0 S1 K1 T1 V1 X1 _).mono ?_
  rw [hp.out]
  rintro e w5 ⟨rfl, b⟩
  have H5 := hide (H4.out.keep b)
  clear b H4 p0 p1 p2 p3 p4 q0 q1 q2 q3 q4 r0 r1 r2 r3 r4
  have q := H5.out
  unfold Three Vt Vi at q
  simp only at q
  obtain ⟨⟨p0, p1, p2, p3, p4⟩, ⟨q0, q1, q2, q3, q4⟩, ⟨r0, r1, r2, r3, r4⟩, -⟩ := q
  go_wp2_with fail
  refine (wins_any S1 K1 T1 V1 X1 S2 K2 T2 V2 X2 _).mono ?_
  rw [hr.out]
  rintro e w6 ⟨rfl, b⟩
  have H6 := hide (H5.out.keep b)
  clear b H5 p0 p1 p2 p3 p4 q0 q1 q2 q3 q4 r0 r1 r2 r3 r4
  have q := H6.out
  unfold Three Vt Vi at q
  simp only at q
  obtain ⟨⟨p0, p1, p2, p3, p4⟩, ⟨q0, q1, q2, q3, q4⟩, ⟨r0, r1, r2, r3, r4⟩, -⟩ := q
  go_wp2_with fail
  refine (wins_any S0 K0 T0 V0 X0 S2 K2 T2 V2 X2 _).mono ?_
  rw [ht.out]
  rintro e w7 ⟨rfl, b⟩
  have H7 := hide (H6.out.keep b)
  clear b H6 p0 p1 p2 p3 p4 q0 q1 q2 q3 q4 r0 r1 r2 r3 r4
  go_wp2_with fail
  refine (awake5_any _).mono ?_
  rintro e w9 ⟨rfl, b⟩
  have HB := hide (bmore H7.out.2.2.2 b)
  clear b H7
  go_wp2
  go_ret
  exact ⟨rfl, HB.out⟩

set_option maxHeartbeats 1000000 in
theorem wins_ltv (S0 K0 T0 V0 X0 S1 K1 T1 V1 X1 S2 K2 T2 V2 X2 : Int) (w : World) (haa : Hid (winsI V0 X0 V0 X0 = false)) (hp : Hid (winsI V0 X0 V1 X1 = false)) (hq : Hid (winsI V1 X1 V0 X0 = true)) (hv : (V0 == V1) = false) :
    Calls Try.prog 6 #[.agg #[.int .i64 S0, .int .i64 K0, .int .u64 T0, .int .u64 V0, .int .i64 X0], .agg #[.int .i64 S1, .int .i64 K1, .int .u64 T1, .int .u64 V1, .int .i64 X1], .agg #[.int .i64 S2, .int .i64 K2, .int .u64 T2, .int .u64 V2, .int .i64 X2]] w fun e w' => e = .returned (.bool true) ∧ Below w.heap.size w w' := by
  have H0 := hide (three_new w ⟨S0, K0, T0, V0, X0⟩ ⟨S1, K1, T1, V1, X1⟩ ⟨S2, K2, T2, V2, X2⟩)
  go_enter Try.func6, Try.ntmps6
  have q := H0.out
  unfold Three Vt Vi at q
  simp only at q
  obtain ⟨⟨p0, p1, p2, p3, p4⟩, ⟨q0, q1, q2, q3, q4⟩, ⟨r0, r1, r2, r3, r4⟩, -⟩ := q
  go_wp2_with fail
  refine (wins_any S0 K0 T0 V0 X0 S0 K0 T0 V0 X0 _).mono ?_
  rw [haa.out]
  rintro e w1 ⟨rfl, b⟩
  have H1 := hide (H0.out.keep b)
  clear b H0 p0 p1 p2 p3 p4 q0 q1 q2 q3 q4 r0 r1 r2 r3 r4
  have q := H1.out
  unfold Three Vt Vi at q
  simp only at q
  obtain ⟨⟨p0, p1, p2, p3, p4⟩, ⟨q0, q1, q2, q3, q4⟩, ⟨r0, r1, r2, r3, r4⟩, -⟩ := q
  go_wp2_with fail
  refine (wins_any S0 K0 T0 V0 X0 S1 K1 T1 V1 X1 _).mono ?_
  rw [hp.out]
  rintro e w2 ⟨rfl, b⟩
  have H2 := hide (H1.out.keep b)
  clear b H1 p0 p1 p2 p3 p4 q0 q1 q2 q3 q4 r0 r1 r2 r3 r4
  have q := H2.out
  unfold Three Vt Vi at q
  simp only at q
  obtain ⟨⟨p0, p1, p2, p3, p4⟩, ⟨q0, q1, q2, q3, q4⟩, ⟨r0, r1, r2, r3, r4⟩, -⟩ := q
  go_wp2_with fail
  refine (wins_any S0 K0 T0 V0 X0 S1 K1 T1 V1 X1 _).mono ?_
  rw [hp.out]
  rintro e w3 ⟨rfl, b⟩
  have H3 := hide (H2.out.keep b)
  clear b H2 p0 p1 p2 p3 p4 q0 q1 q2 q3 q4 r0 r1 r2 r3 r4
  have q := H3.out
  unfold Three Vt Vi at q
  simp only at q
  obtain ⟨⟨p0, p1, p2, p3, p4⟩, ⟨q0, q1, q2, q3, q4⟩, ⟨r0, r1, r2, r3, r4⟩, -⟩ := q
  go_wp2_with fail
  refine (wins_any S1 K1 T1 V1 X1 S0 K0 T0 V0 X0 _).mono ?_
  rw [hq.out]
  rintro e w4 ⟨rfl, b⟩
  have H4 := hide (H3.out.keep b)
  clear b H3 p0 p1 p2 p3 p4 q0 q1 q2 q3 q4 r0 r1 r2 r3 r4
  have q := H4.out
  unfold Three Vt Vi at q
  simp only at q
  obtain ⟨⟨p0, p1, p2, p3, p4⟩, ⟨q0, q1, q2, q3, q4⟩, ⟨r0, r1, r2, r3, r4⟩, -⟩ := q
  go_wp2_with fail
  refine (wins_any S0 K0 T0 V0 X0 S1 K1 T1 V1 X1 _).mono ?_
  rw [hp.out]
  rintro e w5 ⟨rfl, b⟩
  have H5 := hide (H4.out.keep b)
  clear b H4 p0 p1 p2 p3 p4 q0 q1 q2 q3 q4 r0 r1 r2 r3 r4
  go_wp2_with fail
  refine (awake5_any _).mono ?_
  rintro e w9 ⟨rfl, b⟩
  have HB := hide (bmore H5.out.2.2.2 b)
  clear b H5
  go_wp2
  go_ret
  exact ⟨rfl, HB.out⟩

set_option maxHeartbeats 1000000 in
theorem wins_ltx (S0 K0 T0 V0 X0 S1 K1 T1 V1 X1 S2 K2 T2 V2 X2 : Int) (w : World) (haa : Hid (winsI V0 X0 V0 X0 = false)) (hp : Hid (winsI V0 X0 V1 X1 = false)) (hq : Hid (winsI V1 X1 V0 X0 = true)) (hv : (V0 == V1) = true) (hx : (X0 == X1) = false) :
    Calls Try.prog 6 #[.agg #[.int .i64 S0, .int .i64 K0, .int .u64 T0, .int .u64 V0, .int .i64 X0], .agg #[.int .i64 S1, .int .i64 K1, .int .u64 T1, .int .u64 V1, .int .i64 X1], .agg #[.int .i64 S2, .int .i64 K2, .int .u64 T2, .int .u64 V2, .int .i64 X2]] w fun e w' => e = .returned (.bool true) ∧ Below w.heap.size w w' := by
  have H0 := hide (three_new w ⟨S0, K0, T0, V0, X0⟩ ⟨S1, K1, T1, V1, X1⟩ ⟨S2, K2, T2, V2, X2⟩)
  go_enter Try.func6, Try.ntmps6
  have q := H0.out
  unfold Three Vt Vi at q
  simp only at q
  obtain ⟨⟨p0, p1, p2, p3, p4⟩, ⟨q0, q1, q2, q3, q4⟩, ⟨r0, r1, r2, r3, r4⟩, -⟩ := q
  go_wp2_with fail
  refine (wins_any S0 K0 T0 V0 X0 S0 K0 T0 V0 X0 _).mono ?_
  rw [haa.out]
  rintro e w1 ⟨rfl, b⟩
  have H1 := hide (H0.out.keep b)
  clear b H0 p0 p1 p2 p3 p4 q0 q1 q2 q3 q4 r0 r1 r2 r3 r4
  have q := H1.out
  unfold Three Vt Vi at q
  simp only at q
  obtain ⟨⟨p0, p1, p2, p3, p4⟩, ⟨q0, q1, q2, q3, q4⟩, ⟨r0, r1, r2, r3, r4⟩, -⟩ := q
  go_wp2_with fail
  refine (wins_any S0 K0 T0 V0 X0 S1 K1 T1 V1 X1 _).mono ?_
  rw [hp.out]
  rintro e w2 ⟨rfl, b⟩
  have H2 := hide (H1.out.keep b)
  clear b H1 p0 p1 p2 p3 p4 q0 q1 q2 q3 q4 r0 r1 r2 r3 r4
  have q := H2.out
  unfold Three Vt Vi at q
  simp only at q
  obtain ⟨⟨p0, p1, p2, p3, p4⟩, ⟨q0, q1, q2, q3, q4⟩, ⟨r0, r1, r2, r3, r4⟩, -⟩ := q
  go_wp2_with fail
  refine (wins_any S0 K0 T0 V0 X0 S1 K1 T1 V1 X1 _).mono ?_
  rw [hp.out]
  rintro e w3 ⟨rfl, b⟩
  have H3 := hide (H2.out.keep b)
  clear b H2 p0 p1 p2 p3 p4 q0 q1 q2 q3 q4 r0 r1 r2 r3 r4
  have q := H3.out
  unfold Three Vt Vi at q
  simp only at q
  obtain ⟨⟨p0, p1, p2, p3, p4⟩, ⟨q0, q1, q2, q3, q4⟩, ⟨r0, r1, r2, r3, r4⟩, -⟩ := q
  go_wp2_with fail
  refine (wins_any S1 K1 T1 V1 X1 S0 K0 T0 V0 X0 _).mono ?_
  rw [hq.out]
  rintro e w4 ⟨rfl, b⟩
  have H4 := hide (H3.out.keep b)
  clear b H3 p0 p1 p2 p3 p4 q0 q1 q2 q3 q4 r0 r1 r2 r3 r4
  have q := H4.out
  unfold Three Vt Vi at q
  simp only at q
  obtain ⟨⟨p0, p1, p2, p3, p4⟩, ⟨q0, q1, q2, q3, q4⟩, ⟨r0, r1, r2, r3, r4⟩, -⟩ := q
  go_wp2_with fail
  refine (wins_any S0 K0 T0 V0 X0 S1 K1 T1 V1 X1 _).mono ?_
  rw [hp.out]
  rintro e w5 ⟨rfl, b⟩
  have H5 := hide (H4.out.keep b)
  clear b H4 p0 p1 p2 p3 p4 q0 q1 q2 q3 q4 r0 r1 r2 r3 r4
  go_wp2_with fail
  refine (awake5_any _).mono ?_
  rintro e w9 ⟨rfl, b⟩
  have HB := hide (bmore H5.out.2.2.2 b)
  clear b H5
  go_wp2
  go_ret
  exact ⟨rfl, HB.out⟩

set_option maxHeartbeats 1000000 in
theorem wins_eq (S0 K0 T0 V0 X0 S1 K1 T1 V1 X1 S2 K2 T2 V2 X2 : Int) (w : World) (haa : Hid (winsI V0 X0 V0 X0 = false)) (hp : Hid (winsI V0 X0 V1 X1 = false)) (hq : Hid (winsI V1 X1 V0 X0 = false)) (hv : (V0 == V1) = true) (hx : (X0 == X1) = true) :
    Calls Try.prog 6 #[.agg #[.int .i64 S0, .int .i64 K0, .int .u64 T0, .int .u64 V0, .int .i64 X0], .agg #[.int .i64 S1, .int .i64 K1, .int .u64 T1, .int .u64 V1, .int .i64 X1], .agg #[.int .i64 S2, .int .i64 K2, .int .u64 T2, .int .u64 V2, .int .i64 X2]] w fun e w' => e = .returned (.bool true) ∧ Below w.heap.size w w' := by
  have H0 := hide (three_new w ⟨S0, K0, T0, V0, X0⟩ ⟨S1, K1, T1, V1, X1⟩ ⟨S2, K2, T2, V2, X2⟩)
  go_enter Try.func6, Try.ntmps6
  have q := H0.out
  unfold Three Vt Vi at q
  simp only at q
  obtain ⟨⟨p0, p1, p2, p3, p4⟩, ⟨q0, q1, q2, q3, q4⟩, ⟨r0, r1, r2, r3, r4⟩, -⟩ := q
  go_wp2_with fail
  refine (wins_any S0 K0 T0 V0 X0 S0 K0 T0 V0 X0 _).mono ?_
  rw [haa.out]
  rintro e w1 ⟨rfl, b⟩
  have H1 := hide (H0.out.keep b)
  clear b H0 p0 p1 p2 p3 p4 q0 q1 q2 q3 q4 r0 r1 r2 r3 r4
  have q := H1.out
  unfold Three Vt Vi at q
  simp only at q
  obtain ⟨⟨p0, p1, p2, p3, p4⟩, ⟨q0, q1, q2, q3, q4⟩, ⟨r0, r1, r2, r3, r4⟩, -⟩ := q
  go_wp2_with fail
  refine (wins_any S0 K0 T0 V0 X0 S1 K1 T1 V1 X1 _).mono ?_
  rw [hp.out]
  rintro e w2 ⟨rfl, b⟩
  have H2 := hide (H1.out.keep b)
  clear b H1 p0 p1 p2 p3 p4 q0 q1 q2 q3 q4 r0 r1 r2 r3 r4
  have q := H2.out
  unfold Three Vt Vi at q
  simp only at q
  obtain ⟨⟨p0, p1, p2, p3, p4⟩, ⟨q0, q1, q2, q3, q4⟩, ⟨r0, r1, r2, r3, r4⟩, -⟩ := q
  go_wp2_with fail
  refine (wins_any S0 K0 T0 V0 X0 S1 K1 T1 V1 X1 _).mono ?_
  rw [hp.out]
  rintro e w3 ⟨rfl, b⟩
  have H3 := hide (H2.out.keep b)
  clear b H2 p0 p1 p2 p3 p4 q0 q1 q2 q3 q4 r0 r1 r2 r3 r4
  have q := H3.out
  unfold Three Vt Vi at q
  simp only at q
  obtain ⟨⟨p0, p1, p2, p3, p4⟩, ⟨q0, q1, q2, q3, q4⟩, ⟨r0, r1, r2, r3, r4⟩, -⟩ := q
  go_wp2_with fail
  refine (wins_any S1 K1 T1 V1 X1 S0 K0 T0 V0 X0 _).mono ?_
  rw [hq.out]
  rintro e w4 ⟨rfl, b⟩
  have H4 := hide (H3.out.keep b)
  clear b H3 p0 p1 p2 p3 p4 q0 q1 q2 q3 q4 r0 r1 r2 r3 r4
  have q := H4.out
  unfold Three Vt Vi at q
  simp only at q
  obtain ⟨⟨p0, p1, p2, p3, p4⟩, ⟨q0, q1, q2, q3, q4⟩, ⟨r0, r1, r2, r3, r4⟩, -⟩ := q
  go_wp2_with fail
  refine (wins_any S0 K0 T0 V0 X0 S1 K1 T1 V1 X1 _).mono ?_
  rw [hp.out]
  rintro e w5 ⟨rfl, b⟩
  have H5 := hide (H4.out.keep b)
  clear b H4 p0 p1 p2 p3 p4 q0 q1 q2 q3 q4 r0 r1 r2 r3 r4
  go_wp2_with fail
  refine (awake5_any _).mono ?_
  rintro e w9 ⟨rfl, b⟩
  have HB := hide (bmore H5.out.2.2.2 b)
  clear b H5
  go_wp2
  go_ret
  exact ⟨rfl, HB.out⟩

theorem wins_walk (a b c : It) (w : World) : Calls Try.prog 6 #[.agg #[.int .i64 a.S, .int .i64 a.K, .int .u64 a.T, .int .u64 a.V, .int .i64 a.X], .agg #[.int .i64 b.S, .int .i64 b.K, .int .u64 b.T, .int .u64 b.V, .int .i64 b.X], .agg #[.int .i64 c.S, .int .i64 c.K, .int .u64 c.T, .int .u64 c.V, .int .i64 c.X]] w fun e w' => e = .returned (.bool true) ∧ Below w.heap.size w w' := by
  obtain ⟨S0, K0, T0, V0, X0⟩ := a
  obtain ⟨S1, K1, T1, V1, X1⟩ := b
  obtain ⟨S2, K2, T2, V2, X2⟩ := c
  have wt : ∀ {a b c d : Int}, (c < a ∨ a = c ∧ d < b) → winsI a b c d = true := fun h => by unfold winsI; simpa using h
  have wf : ∀ {a b c d : Int}, ¬ (c < a ∨ a = c ∧ d < b) → winsI a b c d = false := fun h => by unfold winsI; simpa using h
  have haa : winsI V0 X0 V0 X0 = false := wf (by omega)
  rcases (show (V0 = V1 ∧ X0 = X1) ∨ (V1 < V0 ∨ V0 = V1 ∧ X1 < X0) ∨ (V0 < V1 ∨ V0 = V1 ∧ X0 < X1) by omega) with ⟨hv, hx⟩ | h | h
  · exact wins_eq S0 K0 T0 V0 X0 S1 K1 T1 V1 X1 S2 K2 T2 V2 X2 w haa (wf (by omega)) (wf (by omega)) (by simp [hv]) (by simp [hx])
  · by_cases hr : V2 < V1 ∨ V1 = V2 ∧ X2 < X1
    · by_cases hv : V0 = V1
      · exact wins_gttx S0 K0 T0 V0 X0 S1 K1 T1 V1 X1 S2 K2 T2 V2 X2 w haa (wt h) (wf (by omega)) (wt hr) (wt (by omega)) (by simp [hv]) (by simp; omega)
      · exact wins_gttv S0 K0 T0 V0 X0 S1 K1 T1 V1 X1 S2 K2 T2 V2 X2 w haa (wt h) (wf (by omega)) (wt hr) (wt (by omega)) (by simp [hv])
    · by_cases hv : V0 = V1
      · exact wins_gtx S0 K0 T0 V0 X0 S1 K1 T1 V1 X1 S2 K2 T2 V2 X2 w haa (wt h) (wf (by omega)) (wf hr) (by simp [hv]) (by simp; omega)
      · exact wins_gtv S0 K0 T0 V0 X0 S1 K1 T1 V1 X1 S2 K2 T2 V2 X2 w haa (wt h) (wf (by omega)) (wf hr) (by simp [hv])
  · by_cases hv : V0 = V1
    · exact wins_ltx S0 K0 T0 V0 X0 S1 K1 T1 V1 X1 S2 K2 T2 V2 X2 w haa (wf (by omega)) (wt (by omega)) (by simp [hv]) (by simp; omega)
    · exact wins_ltv S0 K0 T0 V0 X0 S1 K1 T1 V1 X1 S2 K2 T2 V2 X2 w haa (wf (by omega)) (wt (by omega)) (by simp [hv])

end Go.Proofs.Ytfmofkkjnepbcaa.Clep
