/- The statement ItemTells, walked: for any two items. No conditions. -/
import Derived.Test.YtfmofkkjnepbcaaIRefKey
namespace Go.Proofs.Ytfmofkkjnepbcaa.Clep
open Go.RowKit
set_option linter.unusedVariables false

set_option maxHeartbeats 2000000 in
set_option maxRecDepth 4000 in
theorem tells_core (S0 K0 T0 V0 X0 S1 K1 T1 V1 X1 : Int) (w : World) (hT : 0 ≤ T0 ∧ T0 ≤ 18446744073709551615) (o : Bool) (ho : Hid (okI S0 K0 T0 V0 X0 = o)) :
    Calls Try.prog 3 #[.agg #[.int .i64 S0, .int .i64 K0, .int .u64 T0, .int .u64 V0, .int .i64 X0], .agg #[.int .i64 S1, .int .i64 K1, .int .u64 T1, .int .u64 V1, .int .i64 X1]] w fun e w' => e = .returned (.bool true) ∧ Below w.heap.size w w' := by
  have A0 := (vi_new w S0 K0 T0 V0 X0).keep ((Below.refl _ _).alloc (Nat.le_refl _) (Obj.cells #[Value.int IntKind.i64 S1, Value.int IntKind.i64 K1, Value.int IntKind.u64 T1, Value.int IntKind.u64 V1, Value.int IntKind.i64 X1] 24))
  have A1 := vi_new (w.alloc (Obj.cells #[Value.int IntKind.i64 S0, Value.int IntKind.i64 K0, Value.int IntKind.u64 T0, Value.int IntKind.u64 V0, Value.int IntKind.i64 X0] 24)) S1 K1 T1 V1 X1
  have B0 := hide (((Below.refl _ w).alloc (Nat.le_refl _) (Obj.cells #[Value.int IntKind.i64 S0, Value.int IntKind.i64 K0, Value.int IntKind.u64 T0, Value.int IntKind.u64 V0, Value.int IntKind.i64 X0] 24)).alloc (by simp) (Obj.cells #[Value.int IntKind.i64 S1, Value.int IntKind.i64 K1, Value.int IntKind.u64 T1, Value.int IntKind.u64 V1, Value.int IntKind.i64 X1] 24))
  rw [show (w.alloc (Obj.cells #[Value.int IntKind.i64 S0, Value.int IntKind.i64 K0, Value.int IntKind.u64 T0, Value.int IntKind.u64 V0, Value.int IntKind.i64 X0] 24)).heap.size = w.heap.size + 1 from by simp] at A1
  have HA0 := hide A0
  have HA1 := hide A1
  clear A0 A1
  have kR := hide (key_any S0 K0 T0 V0 X0 (hT := hT))
  have kQ := hide (refkey_any S0 K0 T0 V0 X0 (hT := hT))
  have hkr := hide (show ∀ z ∈ ([S0 % 256, K0 % 256] ++ e8 T0 8), 0 ≤ z ∧ z < 256 from cat_range (by intro z hz; simp only [List.mem_cons, List.not_mem_nil, or_false] at hz; omega) (e8_range T0))
  have hkl := hide (show ([S0 % 256, K0 % 256] ++ e8 T0 8).length = 10 from by rw [List.length_append, e8_len]; rfl)
  go_enter Try.func3, Try.ntmps3
  go_wp2_with fail
  generalize (w.alloc (Obj.cells #[Value.int IntKind.i64 S0, Value.int IntKind.i64 K0, Value.int IntKind.u64 T0, Value.int IntKind.u64 V0, Value.int IntKind.i64 X0] 24)).alloc (Obj.cells #[Value.int IntKind.i64 S1, Value.int IntKind.i64 K1, Value.int IntKind.u64 T1, Value.int IntKind.u64 V1, Value.int IntKind.i64 X1] 24) = w1 at *
  have c_o1 : Hid (∀ p : Kp w1, Calls Try.prog 9 #[.agg #[.int .i64 S0, .int .i64 K0, .int .u64 T0, .int .u64 V0, .int .i64 X0]] p.W fun e w'' => e = .returned (.bool (okI S0 K0 T0 V0 X0)) ∧ ∃ q : Kp w1, w'' = q.W) := hide fun p => kp_call (ok_any S0 K0 T0 V0 X0 _)
  have c_o2 : Hid (∀ p : Kp w1, Calls Try.prog 10 #[.agg #[.int .i64 S0, .int .i64 K0, .int .u64 T0, .int .u64 V0, .int .i64 X0]] p.W fun e w'' => e = .returned (.bool (okI S0 K0 T0 V0 X0)) ∧ ∃ q : Kp w1, w'' = q.W) := hide fun p => kp_call (refok_any S0 K0 T0 V0 X0 _)
  have c_l1 : Hid (∀ p : Kp w1, Calls Try.prog 11 #[.agg #[.int .i64 S0, .int .i64 K0, .int .u64 T0, .int .u64 V0, .int .i64 X0], .agg #[.int .i64 S1, .int .i64 K1, .int .u64 T1, .int .u64 V1, .int .i64 X1]] p.W fun e w'' => e = .returned (.bool (lessI S0 K0 T0 S1 K1 T1)) ∧ ∃ q : Kp w1, w'' = q.W) := hide fun p => kp_call (less_any S0 K0 T0 V0 X0 S1 K1 T1 V1 X1 _)
  have c_l2 : Hid (∀ p : Kp w1, Calls Try.prog 12 #[.agg #[.int .i64 S0, .int .i64 K0, .int .u64 T0, .int .u64 V0, .int .i64 X0], .agg #[.int .i64 S1, .int .i64 K1, .int .u64 T1, .int .u64 V1, .int .i64 X1]] p.W fun e w'' => e = .returned (.bool (lessI S0 K0 T0 S1 K1 T1)) ∧ ∃ q : Kp w1, w'' = q.W) := hide fun p => kp_call (refless_any S0 K0 T0 V0 X0 S1 K1 T1 V1 X1 _)
  have c_s1 : Hid (∀ p : Kp w1, Calls Try.prog 13 #[.agg #[.int .i64 S0, .int .i64 K0, .int .u64 T0, .int .u64 V0, .int .i64 X0], .agg #[.int .i64 S1, .int .i64 K1, .int .u64 T1, .int .u64 V1, .int .i64 X1]] p.W fun e w'' => e = .returned (.bool (sameI S0 K0 T0 S1 K1 T1)) ∧ ∃ q : Kp w1, w'' = q.W) := hide fun p => kp_call (same_any S0 K0 T0 V0 X0 S1 K1 T1 V1 X1 _)
  have c_s2 : Hid (∀ p : Kp w1, Calls Try.prog 14 #[.agg #[.int .i64 S0, .int .i64 K0, .int .u64 T0, .int .u64 V0, .int .i64 X0], .agg #[.int .i64 S1, .int .i64 K1, .int .u64 T1, .int .u64 V1, .int .i64 X1]] p.W fun e w'' => e = .returned (.bool (sameI S0 K0 T0 S1 K1 T1)) ∧ ∃ q : Kp w1, w'' = q.W) := hide fun p => kp_call (refsame_any S0 K0 T0 V0 X0 S1 K1 T1 V1 X1 _)
  have c_w1 : Hid (∀ p : Kp w1, Calls Try.prog 15 #[.agg #[.int .i64 S0, .int .i64 K0, .int .u64 T0, .int .u64 V0, .int .i64 X0], .agg #[.int .i64 S1, .int .i64 K1, .int .u64 T1, .int .u64 V1, .int .i64 X1]] p.W fun e w'' => e = .returned (.bool (winsI V0 X0 V1 X1)) ∧ ∃ q : Kp w1, w'' = q.W) := hide fun p => kp_call (wins_any S0 K0 T0 V0 X0 S1 K1 T1 V1 X1 _)
  have c_w2 : Hid (∀ p : Kp w1, Calls Try.prog 16 #[.agg #[.int .i64 S0, .int .i64 K0, .int .u64 T0, .int .u64 V0, .int .i64 X0], .agg #[.int .i64 S1, .int .i64 K1, .int .u64 T1, .int .u64 V1, .int .i64 X1]] p.W fun e w'' => e = .returned (.bool (winsI V0 X0 V1 X1)) ∧ ∃ q : Kp w1, w'' = q.W) := hide fun p => kp_call (refwins_any S0 K0 T0 V0 X0 S1 K1 T1 V1 X1 _)
  have c_h1 : Hid (∀ p : Kp w1, Calls Try.prog 17 #[.agg #[.int .i64 S0, .int .i64 K0, .int .u64 T0, .int .u64 V0, .int .i64 X0], .agg #[.int .i64 S1, .int .i64 K1, .int .u64 T1, .int .u64 V1, .int .i64 X1]] p.W fun e w'' => e = .returned (.bool (hidesI S0 K0 V0 S1 K1 V1)) ∧ ∃ q : Kp w1, w'' = q.W) := hide fun p => kp_call (hides_any S0 K0 T0 V0 X0 S1 K1 T1 V1 X1 _)
  have c_h2 : Hid (∀ p : Kp w1, Calls Try.prog 18 #[.agg #[.int .i64 S0, .int .i64 K0, .int .u64 T0, .int .u64 V0, .int .i64 X0], .agg #[.int .i64 S1, .int .i64 K1, .int .u64 T1, .int .u64 V1, .int .i64 X1]] p.W fun e w'' => e = .returned (.bool (hidesI S0 K0 V0 S1 K1 V1)) ∧ ∃ q : Kp w1, w'' = q.W) := hide fun p => kp_call (refhides_any S0 K0 T0 V0 X0 S1 K1 T1 V1 X1 _)
  have d00 : ∀ p : Kp w1, p.W.cell? ⟨w.heap.size, 0, none⟩ = some (.int .i64 S0) := fun p => (HA0.out.keep p.h).1
  have d01 : ∀ p : Kp w1, p.W.cell? ⟨w.heap.size, 1, none⟩ = some (.int .i64 K0) := fun p => (HA0.out.keep p.h).2.1
  have d02 : ∀ p : Kp w1, p.W.cell? ⟨w.heap.size, 2, none⟩ = some (.int .u64 T0) := fun p => (HA0.out.keep p.h).2.2.1
  have d03 : ∀ p : Kp w1, p.W.cell? ⟨w.heap.size, 3, none⟩ = some (.int .u64 V0) := fun p => (HA0.out.keep p.h).2.2.2.1
  have d04 : ∀ p : Kp w1, p.W.cell? ⟨w.heap.size, 4, none⟩ = some (.int .i64 X0) := fun p => (HA0.out.keep p.h).2.2.2.2
  have d10 : ∀ p : Kp w1, p.W.cell? ⟨w.heap.size + 1, 0, none⟩ = some (.int .i64 S1) := fun p => (HA1.out.keep p.h).1
  have d11 : ∀ p : Kp w1, p.W.cell? ⟨w.heap.size + 1, 1, none⟩ = some (.int .i64 K1) := fun p => (HA1.out.keep p.h).2.1
  have d12 : ∀ p : Kp w1, p.W.cell? ⟨w.heap.size + 1, 2, none⟩ = some (.int .u64 T1) := fun p => (HA1.out.keep p.h).2.2.1
  have d13 : ∀ p : Kp w1, p.W.cell? ⟨w.heap.size + 1, 3, none⟩ = some (.int .u64 V1) := fun p => (HA1.out.keep p.h).2.2.2.1
  have d14 : ∀ p : Kp w1, p.W.cell? ⟨w.heap.size + 1, 4, none⟩ = some (.int .i64 X1) := fun p => (HA1.out.keep p.h).2.2.2.2
  have hne : Nonempty (Kp w1) := ⟨⟨w1, Below.refl _ _⟩⟩
  generalize lessI S0 K0 T0 S1 K1 T1 = r1 at *
  generalize sameI S0 K0 T0 S1 K1 T1 = r2 at *
  generalize winsI V0 X0 V1 X1 = r3 at *
  generalize hidesI S0 K0 V0 S1 K1 V1 = r4 at *
  rw [ho.out] at c_o1 c_o2
  refine wp_region_kept (by kernel_rfl) (by kernel_rfl) ?_
  repeat (first
    | go_big_quiet_step (first
      | (go_at_call 9; exact c_o1.out _)
      | (go_at_call 10; exact c_o2.out _)
      | (go_at_call 11; exact c_l1.out _)
      | (go_at_call 12; exact c_l2.out _)
      | (go_at_call 13; exact c_s1.out _)
      | (go_at_call 14; exact c_s2.out _)
      | (go_at_call 15; exact c_w1.out _)
      | (go_at_call 16; exact c_w2.out _)
      | (go_at_call 17; exact c_h1.out _)
      | (go_at_call 18; exact c_h2.out _))
    | fail)
  refine wpQuiet_nil ?_
  intro w2 hw'
  have HB : Hid (Below w1.heap.size w1 w2) := by
    obtain ⟨⟨w3', hb3⟩, hw''⟩ := hw'
    rw [hw'']; exact hb3
  have HA2 := hide (HA0.out.keep HB.out)
  have B2 := hide (bmore B0.out HB.out)
  clear hw' hne HA0 HA1 HB B0 c_o1 c_o2 c_l1 c_l2 c_s1 c_s2 c_w1 c_w2 c_h1 c_h2 d00 d01 d02 d03 d04 d10 d11 d12 d13 d14
  have q := HA2.out
  unfold Vi at q
  simp only [Nat.zero_add] at q
  obtain ⟨q0, q1, q2, q3, q4⟩ := q
  have e_o : Hid (∀ W, Below w2.heap.size w2 W → Calls Try.prog 10 #[.agg #[.int .i64 S0, .int .i64 K0, .int .u64 T0, .int .u64 V0, .int .i64 X0]] W fun e w' => e = .returned (.bool o) ∧ Below w2.heap.size w2 w' ∧ Below W.heap.size W w') := hide fun W hW => by
    rw [← ho.out]
    exact (refok_any S0 K0 T0 V0 X0 W).mono fun e w' h => ⟨h.1, hW.trans (h.2.mono hW.size), h.2⟩
  have e_a : Hid (∀ W, Below w2.heap.size w2 W → Calls Try.prog 21 #[] W fun e w' => e = .returned (.bool true) ∧ Below w2.heap.size w2 w' ∧ Below W.heap.size W w') := hide fun W hW =>
    (awake5_any W).mono fun e w' h => ⟨h.1, hW.trans (h.2.mono hW.size), h.2⟩
  have e_k : Hid (∀ W, Below w2.heap.size w2 W → Calls Try.prog 19 #[.agg #[.int .i64 S0, .int .i64 K0, .int .u64 T0, .int .u64 V0, .int .i64 X0]] W fun e w' => ∃ a c, e = .returned (.slice a 10 c) ∧
      (∀ W', Below w'.heap.size w' W' → (convert 27 9 (.slice a 10 c)).run Try.prog W' = .ok (.string (strOfNums ([S0 % 256, K0 % 256] ++ e8 T0 8))) W') ∧ Below w2.heap.size w2 w' ∧ Below w'.heap.size w' w') := hide fun W hW =>
    (kR.out W).mono fun e w' ⟨v, he, ho', hb⟩ => by
      obtain ⟨a, c, rfl, hcv⟩ := own_conv ho' hkr.out 10 hkl.out
      exact ⟨a, c, he, hcv.out, hW.trans (hb.mono hW.size), Below.refl _ _⟩
  have e_q : Hid (∀ W, Below w2.heap.size w2 W → Calls Try.prog 20 #[.agg #[.int .i64 S0, .int .i64 K0, .int .u64 T0, .int .u64 V0, .int .i64 X0]] W fun e w' => e = .returned (.string (strOfNums ([S0 % 256, K0 % 256] ++ e8 T0 8))) ∧ Below w2.heap.size w2 w' ∧ Below W.heap.size W w') := hide fun W hW =>
    (kQ.out W).mono fun e w' h => ⟨h.1, hW.trans (h.2.mono hW.size), h.2⟩
  generalize strOfNums ([S0 % 256, K0 % 256] ++ e8 T0 8) = SK at *
  clear kR kQ hkr hkl ho
  have HK : Hid (∀ W, Below w2.heap.size w2 W → W.cell? ⟨w.heap.size, 0, none⟩ = some (.int .i64 S0) ∧ W.cell? ⟨w.heap.size, 1, none⟩ = some (.int .i64 K0) ∧ W.cell? ⟨w.heap.size, 2, none⟩ = some (.int .u64 T0) ∧ W.cell? ⟨w.heap.size, 3, none⟩ = some (.int .u64 V0) ∧ W.cell? ⟨w.heap.size, 4, none⟩ = some (.int .i64 X0)) := hide fun W hW => HA2.out.keep hW
  have hb0 : Below w2.heap.size w2 w2 := Below.refl _ _
  cases o with
  | false =>
    have c_o : Hid (∀ p : Kp w2, Calls Try.prog 10 #[.agg #[.int .i64 S0, .int .i64 K0, .int .u64 T0, .int .u64 V0, .int .i64 X0]] p.W fun e w'' => e = .returned (.bool false) ∧ ∃ q : Kp w2, w'' = q.W) := hide fun p => kp_call ((e_o.out _ p.h).mono fun e w' h => ⟨h.1, h.2.2⟩)
    have c_a : Hid (∀ p : Kp w2, Calls Try.prog 21 #[] p.W fun e w'' => e = .returned (.bool true) ∧ ∃ q : Kp w2, w'' = q.W) := hide fun p => kp_call ((e_a.out _ p.h).mono fun e w' h => ⟨h.1, h.2.2⟩)
    have d0 : ∀ p : Kp w2, p.W.cell? ⟨w.heap.size, 0, none⟩ = some (.int .i64 S0) := fun p => (HK.out _ p.h).1
    have d1 : ∀ p : Kp w2, p.W.cell? ⟨w.heap.size, 1, none⟩ = some (.int .i64 K0) := fun p => (HK.out _ p.h).2.1
    have d2 : ∀ p : Kp w2, p.W.cell? ⟨w.heap.size, 2, none⟩ = some (.int .u64 T0) := fun p => (HK.out _ p.h).2.2.1
    have d3 : ∀ p : Kp w2, p.W.cell? ⟨w.heap.size, 3, none⟩ = some (.int .u64 V0) := fun p => (HK.out _ p.h).2.2.2.1
    have d4 : ∀ p : Kp w2, p.W.cell? ⟨w.heap.size, 4, none⟩ = some (.int .i64 X0) := fun p => (HK.out _ p.h).2.2.2.2
    have hne : Nonempty (Kp w2) := ⟨⟨w2, Below.refl _ _⟩⟩
    clear e_o e_a e_k e_q q0 q1 q2 q3 q4 hb0 HK HA2
    go_wp2_with fail
    refine wp_region_kept (by kernel_rfl) (by kernel_rfl) ?_
    repeat (first
      | go_big_quiet_step (first | (go_at_call 10; exact c_o.out _) | (go_at_call 21; exact c_a.out _))
      | fail)
    refine wpQuiet_nil ?_
    intro w3 hw'
    have HB : Hid (Below w.heap.size w w3) := by
      obtain ⟨⟨w3', hb3⟩, hw''⟩ := hw'
      rw [hw'']; exact hide (bmore B2.out hb3)
    clear hw' hne c_o c_a d0 d1 d2 d3 d4
    go_wp2
    go_ret
    exact ⟨rfl, HB.out⟩
  | true =>
    go_wp2_with fail
    go_region_held_law (fun W => Below w2.heap.size w2 W ∧ W.cell? ⟨w.heap.size, 0, none⟩ = some (.int .i64 S0) ∧ W.cell? ⟨w.heap.size, 1, none⟩ = some (.int .i64 K0) ∧ W.cell? ⟨w.heap.size, 2, none⟩ = some (.int .u64 T0) ∧ W.cell? ⟨w.heap.size, 3, none⟩ = some (.int .u64 V0) ∧ W.cell? ⟨w.heap.size, 4, none⟩ = some (.int .i64 X0))
      (first | exact ⟨by assumption, HK.out _ (by assumption)⟩ | exact ⟨Below.drew (by assumption), HK.out _ (Below.drew (by assumption))⟩)
      (first
      | (go_at_call 10; refine (e_o.out _ (And.left (by assumption))).mono ?_; rintro e w' ⟨rfl, hb, hbs⟩)
      | (go_at_call 19; refine (e_k.out _ (And.left (by assumption))).mono ?_; rintro e w' ⟨a, c, rfl, hcv, hb, hbr⟩)
      | (go_at_call 20; refine (e_q.out _ (And.left (by assumption))).mono ?_; rintro e w' ⟨rfl, hb, hbs⟩)
      | (go_at_call 21; refine (e_a.out _ (And.left (by assumption))).mono ?_; rintro e w' ⟨rfl, hb, hbs⟩))
    all_goals
      have HB := hide (bmore B2.out hb)
      go_wp2
      go_ret
      exact ⟨rfl, HB.out⟩

theorem tells_walk (a b : It) (ha : a.wf) (w : World) : Calls Try.prog 3 #[.agg #[.int .i64 a.S, .int .i64 a.K, .int .u64 a.T, .int .u64 a.V, .int .i64 a.X], .agg #[.int .i64 b.S, .int .i64 b.K, .int .u64 b.T, .int .u64 b.V, .int .i64 b.X]] w fun e w' => e = .returned (.bool true) ∧ Below w.heap.size w w' :=
  tells_core a.S a.K a.T a.V a.X b.S b.K b.T b.V b.X w ha.2.2.1 _ (hide rfl)

end Go.Proofs.Ytfmofkkjnepbcaa.Clep
