/- StatePurged, walked: for any sample, any delete of its series, any version. No conditions. -/
import Derived.Test.YtckfgpcoingphaaSMath2
import Derived.Test.YtckfgpcoingphaaSLaw
namespace Go.Proofs.Ytckfgpcoingphaa.Clep
open Go.RowKit
set_option linter.unusedVariables false

set_option maxRecDepth 4000 in
set_option maxHeartbeats 8000000 in
theorem purged_walk (x : It) (d v : Int) (w : World) (hw : x.wf) (hd : 0 ≤ d ∧ d ≤ 18446744073709551615) (hv : 0 ≤ v ∧ v ≤ 18446744073709551615) :
    Calls Try.prog 5 #[.agg #[.int .i64 x.S, .int .i64 x.K, .int .u64 x.T, .int .u64 x.V, .int .i64 x.X], .int .u64 d, .int .u64 v] w fun e w' => e = .returned (.bool true) ∧ Below w.heap.size w w' := by
  obtain ⟨S, K, T, V, X⟩ := x
  have HB := hide ((Below.refl _ w).alloc (Nat.le_refl _) (Obj.cells #[Value.int IntKind.i64 S, Value.int IntKind.i64 K, Value.int IntKind.u64 T, Value.int IntKind.u64 V, Value.int IntKind.i64 X] 29))
  have V_x := hide (vi_new w S K T V X)
  obtain ⟨ok, hok⟩ : ∃ o, okI S K T V X = o := ⟨_, rfl⟩
  have HOK := hide hok
  clear hok
  obtain ⟨D, hD⟩ : ∃ D, bits .and .u64 d 281474976710655 = D := ⟨_, rfl⟩
  have hDb := and48 d
  rw [hD] at hDb
  go_enter Try.func5, Try.ntmps5
  go_wp2_with fail
  refine (refok_any S K T V X _).mono ?_
  rw [HOK.out]
  rintro e w1 ⟨rfl, b1⟩
  replace V_x := hide (V_x.out.keep b1)
  replace HB := hide (bmore HB.out b1)
  clear b1
  cases ok with
  | false =>
    go_wp2_with fail
    refine (awake6_any _).mono ?_
    rintro e w2 ⟨rfl, b2⟩
    replace V_x := hide (V_x.out.keep b2)
    replace HB := hide (bmore HB.out b2)
    clear b2
    go_wp2
    go_ret
    exact ⟨rfl, HB.out⟩
  | true =>
    have q_x := V_x.out
    unfold Vi at q_x
    simp only [Nat.zero_add] at q_x
    obtain ⟨x0, x1, x2, x3, x4⟩ := q_x
    by_cases hK : K = 2
    · subst hK
      have hx : It.ok ⟨S, 2, T, V, X⟩ = true := by unfold It.ok; exact HOK.out
      have ht : It.ok ⟨S, 1, 0, D + 1, 0⟩ = true := by simp [It.ok, okI] at hx ⊢; omega
      have HX := hide hx
      have HTT := hide ht
      have hwx := hide hw
      have hwt : Hid (It.wf ⟨S, 1, 0, D + 1, 0⟩) := hide (by obtain ⟨h0, _, _, _, _⟩ := hw; unfold It.wf; simp only at h0 ⊢; omega)
      have hDw : (D + 1) % 18446744073709551616 = D + 1 := by omega
      have hDw2 : IntKind.u64.wrap (D + 1) = D + 1 := by simp [IntKind.wrap, IntKind.bits, IntKind.signed]; omega
      have D1 : Below w1.heap.size w1 (w1.alloc (Obj.cells #[Value.int IntKind.i64 S, Value.int IntKind.i64 1, Value.int IntKind.u64 0, Value.int IntKind.u64 (D + 1), Value.int IntKind.i64 0] 29)) := (Below.refl _ _).alloc (Nat.le_refl _) _
      have V_t := hide (vi_new w1 S 1 0 (D + 1) 0)
      have I0 := is_two (w1.alloc (Obj.cells #[Value.int IntKind.i64 S, Value.int IntKind.i64 1, Value.int IntKind.u64 0, Value.int IntKind.u64 (D + 1), Value.int IntKind.i64 0] 29)) ⟨S, 2, T, V, X⟩ ⟨S, 1, 0, D + 1, 0⟩ hwx.out hwt.out
      rw [show (w1.alloc (Obj.cells #[Value.int IntKind.i64 S, Value.int IntKind.i64 1, Value.int IntKind.u64 0, Value.int IntKind.u64 (D + 1), Value.int IntKind.i64 0] 29)).heap.size = w1.heap.size + 1 from by simp] at I0
      simp only at I0
      have HI0 := hide I0
      have D2 : Below w1.heap.size w1 ((w1.alloc (Obj.cells #[Value.int IntKind.i64 S, Value.int IntKind.i64 1, Value.int IntKind.u64 0, Value.int IntKind.u64 (D + 1), Value.int IntKind.i64 0] 29)).alloc (Obj.cells #[Value.int IntKind.i64 S, Value.int IntKind.i64 2, Value.int IntKind.u64 T, Value.int IntKind.u64 V, Value.int IntKind.i64 X, Value.int IntKind.i64 S, Value.int IntKind.i64 1, Value.int IntKind.u64 0, Value.int IntKind.u64 (D + 1), Value.int IntKind.i64 0] 29)) := D1.alloc (by simp) _
      have q1 := V_x.out.keep D1
      unfold Vi at q1
      simp only [Nat.zero_add] at q1
      obtain ⟨xx0, xx1, xx2, xx3, xx4⟩ := q1
      replace V_t := hide (V_t.out.keep ((Below.refl _ _).alloc (Nat.le_refl _) (Obj.cells #[Value.int IntKind.i64 S, Value.int IntKind.i64 2, Value.int IntKind.u64 T, Value.int IntKind.u64 V, Value.int IntKind.i64 X, Value.int IntKind.i64 S, Value.int IntKind.i64 1, Value.int IntKind.u64 0, Value.int IntKind.u64 (D + 1), Value.int IntKind.i64 0] 29)))
      replace V_x := hide (V_x.out.keep D2)
      replace HB := hide (bmore HB.out D2)
      clear I0 D1 D2 hx ht hw
      have hmx : ∀ z : It, z ∈ [(⟨S, 2, T, V, X⟩ : It), ⟨S, 1, 0, D + 1, 0⟩] ↔ z = ⟨S, 2, T, V, X⟩ ∨ z = ⟨S, 1, 0, D + 1, 0⟩ := fun z => by simp
      have hmy : ∀ z : It, z ∈ [(⟨S, 1, 0, D + 1, 0⟩ : It)] ++ [⟨S, 2, T, V, X⟩] ↔ z = ⟨S, 2, T, V, X⟩ ∨ z = ⟨S, 1, 0, D + 1, 0⟩ := fun z => by simp [or_comm]
      have hmz : ∀ z : It, z ∈ [(⟨S, 1, 0, D + 1, 0⟩ : It), ⟨S, 2, T, V, X⟩] ++ [⟨S, 2, T, V, X⟩] ↔ z = ⟨S, 2, T, V, X⟩ ∨ z = ⟨S, 1, 0, D + 1, 0⟩ := fun z => by simp only [List.mem_append, List.mem_cons, List.not_mem_nil, or_false]; exact ⟨fun h => by rcases h with (h | h) | h <;> simp [h], fun h => by rcases h with h | h <;> simp [h]⟩
      by_cases hid : V ≤ D + 1
      · have hh : It.hides ⟨S, 1, 0, D + 1, 0⟩ ⟨S, 2, T, V, X⟩ = true := by simp [It.hides, hidesI]; omega
        have eL : Hid (ofL [(⟨S, 2, T, V, X⟩ : It), ⟨S, 1, 0, D + 1, 0⟩] = [⟨S, 1, 0, D + 1, 0⟩]) := hide (ofL_tomb_hid HX.out HTT.out hh _ hmx)
        by_cases hgone : D + 1 ≤ v
        · have pT : purgeP v ⟨S, 1, 0, D + 1, 0⟩ = false := by unfold purgeP; rw [decide_eq_false_iff_not]; simp only; omega
          have eP : Hid ((([⟨S, 1, 0, D + 1, 0⟩] : List It).filter (purgeP v)) = ([] : List It)) := hide (by simp [pT])
          clear pT
          have eS : Hid (stB ([] : List It) = true) := hide (stB_iff.2 ⟨by simp, by simp, by simp⟩)
          have eQ : Hid (saddL ([] : List It) ⟨S, 2, T, V, X⟩ = [⟨S, 2, T, V, X⟩]) := hide (by unfold saddL; rw [if_pos eS.out]; exact ofL_one HX.out _ (by simp))
          have eG : Hid (getL [⟨S, 2, T, V, X⟩] S T = some ⟨S, 2, T, V, X⟩) := hide (by simp [getL, getP, sampP])
          clear hh hmx hmy hmz
          have g1 : decide (D + 1 ≤ v) = true := by simp; omega
          have g2 : decide (D + 1 < V) = false := by simp; omega
          go_wp2_with fail
          refine (of_any _ 2 2 _ _ HI0.out (by omega)).mono ?_
          intro e w2 hans
          obtain ⟨a_l, n_l, c_l, rfl, i_l, b2⟩ := ans_n hans
          rw [eL.out] at i_l
          obtain rfl : 1 = n_l := i_l.1
          have I_l := hide i_l
          clear hans i_l
          clear x0 x1 x2 x3 x4 xx0 xx1 xx2 xx3 xx4
          replace V_x := hide (V_x.out.keep b2)
          replace V_t := hide (V_t.out.keep b2)
          replace HB := hide (bmore HB.out b2)
          clear b2
          go_wp2_with fail
          refine (purge_any _ 1 _ _ v _ I_l.out (by omega)).mono ?_
          intro e w3 hans
          obtain ⟨a_p, n_p, c_p, rfl, i_p, b3⟩ := ans_n hans
          rw [eP.out] at i_p
          obtain rfl : 0 = n_p := i_p.1
          have I_p := hide i_p
          clear hans i_p
          replace I_l := hide (I_l.out.below b3 (Nat.le_refl _))
          replace V_x := hide (V_x.out.keep b3)
          replace V_t := hide (V_t.out.keep b3)
          replace HB := hide (bmore HB.out b3)
          clear b3
          have q_x := V_x.out
          unfold Vi at q_x
          simp only [Nat.zero_add] at q_x
          obtain ⟨x0, x1, x2, x3, x4⟩ := q_x
          go_wp2_with fail
          refine (add_any _ 0 _ _ S 2 T V X _ I_p.out (by omega) hwx.out).mono ?_
          intro e w4 hans
          obtain ⟨a_q, n_q, c_q, rfl, i_q, b4⟩ := ans_n hans
          rw [eQ.out] at i_q
          obtain rfl : 1 = n_q := i_q.1
          have I_q := hide i_q
          clear hans i_q
          clear x0 x1 x2 x3 x4
          replace I_l := hide (I_l.out.below b4 (Nat.le_refl _))
          replace I_p := hide (I_p.out.below b4 (Nat.le_refl _))
          replace V_x := hide (V_x.out.keep b4)
          replace V_t := hide (V_t.out.keep b4)
          replace HB := hide (bmore HB.out b4)
          clear b4
          have q_x := V_x.out
          unfold Vi at q_x
          simp only [Nat.zero_add] at q_x
          obtain ⟨x0, x1, x2, x3, x4⟩ := q_x
          go_wp2_with fail
          refine (get_any _ 1 _ _ S T _ I_q.out (by omega)).mono ?_
          rw [eG.out]
          rintro e w5 ⟨rfl, b5⟩
          clear x0 x1 x2 x3 x4
          replace I_l := hide (I_l.out.below b5 (Nat.le_refl _))
          replace I_p := hide (I_p.out.below b5 (Nat.le_refl _))
          replace I_q := hide (I_q.out.below b5 (Nat.le_refl _))
          replace V_x := hide (V_x.out.keep b5)
          replace V_t := hide (V_t.out.keep b5)
          replace HB := hide (bmore HB.out b5)
          clear b5
          simp only [Option.getD_some, Option.isSome_some, cv]
          have q_x := V_x.out
          unfold Vi at q_x
          simp only [Nat.zero_add] at q_x
          obtain ⟨x0, x1, x2, x3, x4⟩ := q_x
          have q_t := V_t.out
          unfold Vi at q_t
          simp only [Nat.zero_add] at q_t
          obtain ⟨t0, t1, t2, t3, t4⟩ := q_t
          have HB9 := hide (HB.out.alloc HB.out.size (Obj.cells #[Value.int IntKind.i64 S, Value.int IntKind.i64 2, Value.int IntKind.u64 T, Value.int IntKind.u64 V, Value.int IntKind.i64 X] 29))
          have X9 := V_x.out.keep ((Below.refl _ _).alloc (Nat.le_refl _) (Obj.cells #[Value.int IntKind.i64 S, Value.int IntKind.i64 2, Value.int IntKind.u64 T, Value.int IntKind.u64 V, Value.int IntKind.i64 X] 29))
          have T9 := V_t.out.keep ((Below.refl _ _).alloc (Nat.le_refl _) (Obj.cells #[Value.int IntKind.i64 S, Value.int IntKind.i64 2, Value.int IntKind.u64 T, Value.int IntKind.u64 V, Value.int IntKind.i64 X] 29))
          unfold Vi at X9 T9
          simp only [Nat.zero_add] at X9 T9
          obtain ⟨r0, r1, r2, r3, r4⟩ := X9
          obtain ⟨s0, s1, s2, s3, s4⟩ := T9
          go_wp2_with fail
          refine (awake6_any _).mono ?_
          rintro e w99 ⟨rfl, b99⟩
          have HB99 := hide (bmore HB9.out b99)
          go_wp2
          go_ret
          exact ⟨rfl, HB99.out⟩
        · have pT : purgeP v ⟨S, 1, 0, D + 1, 0⟩ = true := by unfold purgeP; rw [decide_eq_true_eq]; simp only; omega
          have eP : Hid ((([⟨S, 1, 0, D + 1, 0⟩] : List It).filter (purgeP v)) = [⟨S, 1, 0, D + 1, 0⟩]) := hide (by simp [pT])
          clear pT
          have eS : Hid (stB [⟨S, 1, 0, D + 1, 0⟩] = true) := hide (stB_iff.2 (by rw [← eL.out]; exact ofL_stP _))
          have eQ : Hid (saddL [⟨S, 1, 0, D + 1, 0⟩] ⟨S, 2, T, V, X⟩ = [⟨S, 1, 0, D + 1, 0⟩]) := hide (by unfold saddL; rw [if_pos eS.out]; exact ofL_tomb_hid HX.out HTT.out hh _ hmy)
          have eG : Hid (getL [⟨S, 1, 0, D + 1, 0⟩] S T = none) := hide (by simp [getL, getP, sampP])
          clear hh hmx hmy hmz
          have g1 : decide (D + 1 ≤ v) = false := by simp; omega
          have g2 : decide (D + 1 < V) = false := by simp; omega
          go_wp2_with fail
          refine (of_any _ 2 2 _ _ HI0.out (by omega)).mono ?_
          intro e w2 hans
          obtain ⟨a_l, n_l, c_l, rfl, i_l, b2⟩ := ans_n hans
          rw [eL.out] at i_l
          obtain rfl : 1 = n_l := i_l.1
          have I_l := hide i_l
          clear hans i_l
          clear x0 x1 x2 x3 x4 xx0 xx1 xx2 xx3 xx4
          replace V_x := hide (V_x.out.keep b2)
          replace V_t := hide (V_t.out.keep b2)
          replace HB := hide (bmore HB.out b2)
          clear b2
          go_wp2_with fail
          refine (purge_any _ 1 _ _ v _ I_l.out (by omega)).mono ?_
          intro e w3 hans
          obtain ⟨a_p, n_p, c_p, rfl, i_p, b3⟩ := ans_n hans
          rw [eP.out] at i_p
          obtain rfl : 1 = n_p := i_p.1
          have I_p := hide i_p
          clear hans i_p
          replace I_l := hide (I_l.out.below b3 (Nat.le_refl _))
          replace V_x := hide (V_x.out.keep b3)
          replace V_t := hide (V_t.out.keep b3)
          replace HB := hide (bmore HB.out b3)
          clear b3
          have q_x := V_x.out
          unfold Vi at q_x
          simp only [Nat.zero_add] at q_x
          obtain ⟨x0, x1, x2, x3, x4⟩ := q_x
          go_wp2_with fail
          refine (add_any _ 1 _ _ S 2 T V X _ I_p.out (by omega) hwx.out).mono ?_
          intro e w4 hans
          obtain ⟨a_q, n_q, c_q, rfl, i_q, b4⟩ := ans_n hans
          rw [eQ.out] at i_q
          obtain rfl : 1 = n_q := i_q.1
          have I_q := hide i_q
          clear hans i_q
          clear x0 x1 x2 x3 x4
          replace I_l := hide (I_l.out.below b4 (Nat.le_refl _))
          replace I_p := hide (I_p.out.below b4 (Nat.le_refl _))
          replace V_x := hide (V_x.out.keep b4)
          replace V_t := hide (V_t.out.keep b4)
          replace HB := hide (bmore HB.out b4)
          clear b4
          have q_x := V_x.out
          unfold Vi at q_x
          simp only [Nat.zero_add] at q_x
          obtain ⟨x0, x1, x2, x3, x4⟩ := q_x
          go_wp2_with fail
          refine (get_any _ 1 _ _ S T _ I_q.out (by omega)).mono ?_
          rw [eG.out]
          rintro e w5 ⟨rfl, b5⟩
          clear x0 x1 x2 x3 x4
          replace I_l := hide (I_l.out.below b5 (Nat.le_refl _))
          replace I_p := hide (I_p.out.below b5 (Nat.le_refl _))
          replace I_q := hide (I_q.out.below b5 (Nat.le_refl _))
          replace V_x := hide (V_x.out.keep b5)
          replace V_t := hide (V_t.out.keep b5)
          replace HB := hide (bmore HB.out b5)
          clear b5
          simp only [Option.getD_none, Option.isSome_none, cv, it0]
          have q_x := V_x.out
          unfold Vi at q_x
          simp only [Nat.zero_add] at q_x
          obtain ⟨x0, x1, x2, x3, x4⟩ := q_x
          have q_t := V_t.out
          unfold Vi at q_t
          simp only [Nat.zero_add] at q_t
          obtain ⟨t0, t1, t2, t3, t4⟩ := q_t
          have HB9 := hide (HB.out.alloc HB.out.size (Obj.cells #[Value.int IntKind.i64 0, Value.int IntKind.i64 0, Value.int IntKind.u64 0, Value.int IntKind.u64 0, Value.int IntKind.i64 0] 29))
          have X9 := V_x.out.keep ((Below.refl _ _).alloc (Nat.le_refl _) (Obj.cells #[Value.int IntKind.i64 0, Value.int IntKind.i64 0, Value.int IntKind.u64 0, Value.int IntKind.u64 0, Value.int IntKind.i64 0] 29))
          have T9 := V_t.out.keep ((Below.refl _ _).alloc (Nat.le_refl _) (Obj.cells #[Value.int IntKind.i64 0, Value.int IntKind.i64 0, Value.int IntKind.u64 0, Value.int IntKind.u64 0, Value.int IntKind.i64 0] 29))
          unfold Vi at X9 T9
          simp only [Nat.zero_add] at X9 T9
          obtain ⟨r0, r1, r2, r3, r4⟩ := X9
          obtain ⟨s0, s1, s2, s3, s4⟩ := T9
          go_wp2_with fail
          refine (awake6_any _).mono ?_
          rintro e w99 ⟨rfl, b99⟩
          have HB99 := hide (bmore HB9.out b99)
          go_wp2
          go_ret
          exact ⟨rfl, HB99.out⟩
      · have hh : It.hides ⟨S, 1, 0, D + 1, 0⟩ ⟨S, 2, T, V, X⟩ = false := by simp [It.hides, hidesI]; omega
        have eL : Hid (ofL [(⟨S, 2, T, V, X⟩ : It), ⟨S, 1, 0, D + 1, 0⟩] = [⟨S, 1, 0, D + 1, 0⟩, ⟨S, 2, T, V, X⟩]) := hide (ofL_tomb_free HX.out HTT.out rfl rfl rfl hh _ hmx)
        by_cases hgone : D + 1 ≤ v
        · have pT : purgeP v ⟨S, 1, 0, D + 1, 0⟩ = false := by unfold purgeP; rw [decide_eq_false_iff_not]; simp only; omega
          have pX : purgeP v ⟨S, 2, T, V, X⟩ = true := by unfold purgeP; rw [decide_eq_true_eq]; simp only; omega
          have eP : Hid ((([⟨S, 1, 0, D + 1, 0⟩, ⟨S, 2, T, V, X⟩] : List It).filter (purgeP v)) = [⟨S, 2, T, V, X⟩]) := hide (by simp [pT, pX])
          clear pT pX
          have eS : Hid (stB [⟨S, 2, T, V, X⟩] = true) := hide (stB_iff.2 (by rw [← ofL_one HX.out [⟨S, 2, T, V, X⟩] (by simp)]; exact ofL_stP _))
          have eQ : Hid (saddL [⟨S, 2, T, V, X⟩] ⟨S, 2, T, V, X⟩ = [⟨S, 2, T, V, X⟩]) := hide (by unfold saddL; rw [if_pos eS.out]; exact ofL_one HX.out _ (by simp))
          have eG : Hid (getL [⟨S, 2, T, V, X⟩] S T = some ⟨S, 2, T, V, X⟩) := hide (by simp [getL, getP, sampP])
          clear hh hmx hmy hmz
          have g1 : decide (D + 1 ≤ v) = true := by simp; omega
          have g2 : decide (D + 1 < V) = true := by simp; omega
          go_wp2_with fail
          refine (of_any _ 2 2 _ _ HI0.out (by omega)).mono ?_
          intro e w2 hans
          obtain ⟨a_l, n_l, c_l, rfl, i_l, b2⟩ := ans_n hans
          rw [eL.out] at i_l
          obtain rfl : 2 = n_l := i_l.1
          have I_l := hide i_l
          clear hans i_l
          clear x0 x1 x2 x3 x4 xx0 xx1 xx2 xx3 xx4
          replace V_x := hide (V_x.out.keep b2)
          replace V_t := hide (V_t.out.keep b2)
          replace HB := hide (bmore HB.out b2)
          clear b2
          go_wp2_with fail
          refine (purge_any _ 2 _ _ v _ I_l.out (by omega)).mono ?_
          intro e w3 hans
          obtain ⟨a_p, n_p, c_p, rfl, i_p, b3⟩ := ans_n hans
          rw [eP.out] at i_p
          obtain rfl : 1 = n_p := i_p.1
          have I_p := hide i_p
          clear hans i_p
          replace I_l := hide (I_l.out.below b3 (Nat.le_refl _))
          replace V_x := hide (V_x.out.keep b3)
          replace V_t := hide (V_t.out.keep b3)
          replace HB := hide (bmore HB.out b3)
          clear b3
          have q_x := V_x.out
          unfold Vi at q_x
          simp only [Nat.zero_add] at q_x
          obtain ⟨x0, x1, x2, x3, x4⟩ := q_x
          go_wp2_with fail
          refine (add_any _ 1 _ _ S 2 T V X _ I_p.out (by omega) hwx.out).mono ?_
          intro e w4 hans
          obtain ⟨a_q, n_q, c_q, rfl, i_q, b4⟩ := ans_n hans
          rw [eQ.out] at i_q
          obtain rfl : 1 = n_q := i_q.1
          have I_q := hide i_q
          clear hans i_q
          clear x0 x1 x2 x3 x4
          replace I_l := hide (I_l.out.below b4 (Nat.le_refl _))
          replace I_p := hide (I_p.out.below b4 (Nat.le_refl _))
          replace V_x := hide (V_x.out.keep b4)
          replace V_t := hide (V_t.out.keep b4)
          replace HB := hide (bmore HB.out b4)
          clear b4
          have q_x := V_x.out
          unfold Vi at q_x
          simp only [Nat.zero_add] at q_x
          obtain ⟨x0, x1, x2, x3, x4⟩ := q_x
          go_wp2_with fail
          refine (get_any _ 1 _ _ S T _ I_q.out (by omega)).mono ?_
          rw [eG.out]
          rintro e w5 ⟨rfl, b5⟩
          clear x0 x1 x2 x3 x4
          replace I_l := hide (I_l.out.below b5 (Nat.le_refl _))
          replace I_p := hide (I_p.out.below b5 (Nat.le_refl _))
          replace I_q := hide (I_q.out.below b5 (Nat.le_refl _))
          replace V_x := hide (V_x.out.keep b5)
          replace V_t := hide (V_t.out.keep b5)
          replace HB := hide (bmore HB.out b5)
          clear b5
          simp only [Option.getD_some, Option.isSome_some, cv]
          have q_x := V_x.out
          unfold Vi at q_x
          simp only [Nat.zero_add] at q_x
          obtain ⟨x0, x1, x2, x3, x4⟩ := q_x
          have q_t := V_t.out
          unfold Vi at q_t
          simp only [Nat.zero_add] at q_t
          obtain ⟨t0, t1, t2, t3, t4⟩ := q_t
          have HB9 := hide (HB.out.alloc HB.out.size (Obj.cells #[Value.int IntKind.i64 S, Value.int IntKind.i64 2, Value.int IntKind.u64 T, Value.int IntKind.u64 V, Value.int IntKind.i64 X] 29))
          have X9 := V_x.out.keep ((Below.refl _ _).alloc (Nat.le_refl _) (Obj.cells #[Value.int IntKind.i64 S, Value.int IntKind.i64 2, Value.int IntKind.u64 T, Value.int IntKind.u64 V, Value.int IntKind.i64 X] 29))
          have T9 := V_t.out.keep ((Below.refl _ _).alloc (Nat.le_refl _) (Obj.cells #[Value.int IntKind.i64 S, Value.int IntKind.i64 2, Value.int IntKind.u64 T, Value.int IntKind.u64 V, Value.int IntKind.i64 X] 29))
          unfold Vi at X9 T9
          simp only [Nat.zero_add] at X9 T9
          obtain ⟨r0, r1, r2, r3, r4⟩ := X9
          obtain ⟨s0, s1, s2, s3, s4⟩ := T9
          go_wp2_with fail
          refine (awake6_any _).mono ?_
          rintro e w99 ⟨rfl, b99⟩
          have HB99 := hide (bmore HB9.out b99)
          go_wp2
          go_ret
          exact ⟨rfl, HB99.out⟩
        · have pT : purgeP v ⟨S, 1, 0, D + 1, 0⟩ = true := by unfold purgeP; rw [decide_eq_true_eq]; simp only; omega
          have pX : purgeP v ⟨S, 2, T, V, X⟩ = true := by unfold purgeP; rw [decide_eq_true_eq]; simp only; omega
          have eP : Hid ((([⟨S, 1, 0, D + 1, 0⟩, ⟨S, 2, T, V, X⟩] : List It).filter (purgeP v)) = [⟨S, 1, 0, D + 1, 0⟩, ⟨S, 2, T, V, X⟩]) := hide (by simp [pT, pX])
          clear pT pX
          have eS : Hid (stB [⟨S, 1, 0, D + 1, 0⟩, ⟨S, 2, T, V, X⟩] = true) := hide (stB_iff.2 (by rw [← eL.out]; exact ofL_stP _))
          have eQ : Hid (saddL [⟨S, 1, 0, D + 1, 0⟩, ⟨S, 2, T, V, X⟩] ⟨S, 2, T, V, X⟩ = [⟨S, 1, 0, D + 1, 0⟩, ⟨S, 2, T, V, X⟩]) := hide (by unfold saddL; rw [if_pos eS.out]; exact ofL_tomb_free HX.out HTT.out rfl rfl rfl hh _ hmz)
          have eG : Hid (getL [⟨S, 1, 0, D + 1, 0⟩, ⟨S, 2, T, V, X⟩] S T = some ⟨S, 2, T, V, X⟩) := hide (by simp [getL, getP, sampP])
          clear hh hmx hmy hmz
          have g1 : decide (D + 1 ≤ v) = false := by simp; omega
          have g2 : decide (D + 1 < V) = true := by simp; omega
          go_wp2_with fail
          refine (of_any _ 2 2 _ _ HI0.out (by omega)).mono ?_
          intro e w2 hans
          obtain ⟨a_l, n_l, c_l, rfl, i_l, b2⟩ := ans_n hans
          rw [eL.out] at i_l
          obtain rfl : 2 = n_l := i_l.1
          have I_l := hide i_l
          clear hans i_l
          clear x0 x1 x2 x3 x4 xx0 xx1 xx2 xx3 xx4
          replace V_x := hide (V_x.out.keep b2)
          replace V_t := hide (V_t.out.keep b2)
          replace HB := hide (bmore HB.out b2)
          clear b2
          go_wp2_with fail
          refine (purge_any _ 2 _ _ v _ I_l.out (by omega)).mono ?_
          intro e w3 hans
          obtain ⟨a_p, n_p, c_p, rfl, i_p, b3⟩ := ans_n hans
          rw [eP.out] at i_p
          obtain rfl : 2 = n_p := i_p.1
          have I_p := hide i_p
          clear hans i_p
          replace I_l := hide (I_l.out.below b3 (Nat.le_refl _))
          replace V_x := hide (V_x.out.keep b3)
          replace V_t := hide (V_t.out.keep b3)
          replace HB := hide (bmore HB.out b3)
          clear b3
          have q_x := V_x.out
          unfold Vi at q_x
          simp only [Nat.zero_add] at q_x
          obtain ⟨x0, x1, x2, x3, x4⟩ := q_x
          go_wp2_with fail
          refine (add_any _ 2 _ _ S 2 T V X _ I_p.out (by omega) hwx.out).mono ?_
          intro e w4 hans
          obtain ⟨a_q, n_q, c_q, rfl, i_q, b4⟩ := ans_n hans
          rw [eQ.out] at i_q
          obtain rfl : 2 = n_q := i_q.1
          have I_q := hide i_q
          clear hans i_q
          clear x0 x1 x2 x3 x4
          replace I_l := hide (I_l.out.below b4 (Nat.le_refl _))
          replace I_p := hide (I_p.out.below b4 (Nat.le_refl _))
          replace V_x := hide (V_x.out.keep b4)
          replace V_t := hide (V_t.out.keep b4)
          replace HB := hide (bmore HB.out b4)
          clear b4
          have q_x := V_x.out
          unfold Vi at q_x
          simp only [Nat.zero_add] at q_x
          obtain ⟨x0, x1, x2, x3, x4⟩ := q_x
          go_wp2_with fail
          refine (get_any _ 2 _ _ S T _ I_q.out (by omega)).mono ?_
          rw [eG.out]
          rintro e w5 ⟨rfl, b5⟩
          clear x0 x1 x2 x3 x4
          replace I_l := hide (I_l.out.below b5 (Nat.le_refl _))
          replace I_p := hide (I_p.out.below b5 (Nat.le_refl _))
          replace I_q := hide (I_q.out.below b5 (Nat.le_refl _))
          replace V_x := hide (V_x.out.keep b5)
          replace V_t := hide (V_t.out.keep b5)
          replace HB := hide (bmore HB.out b5)
          clear b5
          simp only [Option.getD_some, Option.isSome_some, cv]
          have q_x := V_x.out
          unfold Vi at q_x
          simp only [Nat.zero_add] at q_x
          obtain ⟨x0, x1, x2, x3, x4⟩ := q_x
          have q_t := V_t.out
          unfold Vi at q_t
          simp only [Nat.zero_add] at q_t
          obtain ⟨t0, t1, t2, t3, t4⟩ := q_t
          have HB9 := hide (HB.out.alloc HB.out.size (Obj.cells #[Value.int IntKind.i64 S, Value.int IntKind.i64 2, Value.int IntKind.u64 T, Value.int IntKind.u64 V, Value.int IntKind.i64 X] 29))
          have X9 := V_x.out.keep ((Below.refl _ _).alloc (Nat.le_refl _) (Obj.cells #[Value.int IntKind.i64 S, Value.int IntKind.i64 2, Value.int IntKind.u64 T, Value.int IntKind.u64 V, Value.int IntKind.i64 X] 29))
          have T9 := V_t.out.keep ((Below.refl _ _).alloc (Nat.le_refl _) (Obj.cells #[Value.int IntKind.i64 S, Value.int IntKind.i64 2, Value.int IntKind.u64 T, Value.int IntKind.u64 V, Value.int IntKind.i64 X] 29))
          unfold Vi at X9 T9
          simp only [Nat.zero_add] at X9 T9
          obtain ⟨r0, r1, r2, r3, r4⟩ := X9
          obtain ⟨s0, s1, s2, s3, s4⟩ := T9
          go_wp2_with fail
          refine (awake6_any _).mono ?_
          rintro e w99 ⟨rfl, b99⟩
          have HB99 := hide (bmore HB9.out b99)
          go_wp2
          go_ret
          exact ⟨rfl, HB99.out⟩
    · have hKb : (K != 2) = true := by simp [hK]
      clear hK
      go_wp2_with fail
      refine (awake6_any _).mono ?_
      rintro e w2 ⟨rfl, b2⟩
      clear x0 x1 x2 x3 x4
      replace V_x := hide (V_x.out.keep b2)
      replace HB := hide (bmore HB.out b2)
      clear b2
      go_wp2
      go_ret
      exact ⟨rfl, HB.out⟩

end Go.Proofs.Ytckfgpcoingphaa.Clep
