/- What state.compare does when called: for any two items; it is an order that parts whatever two items that are not one. No conditions. -/
import Derived.Test.YtkkcchklefcljaaSMath
import Derived.Test.YtkkcchklefcljaaSShelf
import Derived.Shelf.SlSortCmp.NoneTotal
namespace Go.Proofs.Ytkkcchklefcljaa.Clep
open Go.RowKit Go.Sort Go.Proofs
set_option linter.unusedVariables false
set_option maxRecDepth 10000

/-- Draws and new blocks alone. -/
def Gr (w w' : World) : Prop := ∃ q os', w' = grow (w.drewN q) os'
theorem gr_refl (w : World) : Gr w w := ⟨0, #[], by simp [grow, World.drewN]⟩
theorem gr_trans {a b c : World} (h : Gr a b) (k : Gr b c) : Gr a c := by
  obtain ⟨q, os, rfl⟩ := h
  obtain ⟨q', os', rfl⟩ := k
  refine ⟨q + q', os ++ os', ?_⟩
  simp [grow, World.drewN, Nat.add_assoc]
theorem gr_alloc (w : World) (o : Obj) : Gr w (w.alloc o) := ⟨0, #[o], by rw [alloc_eq_grow]; simp [grow, World.drewN]⟩
theorem gr_below {w w' : World} (h : Gr w w') : Below w.heap.size w w' := by
  obtain ⟨q, os, rfl⟩ := h
  refine ⟨rfl, rfl, rfl, by simp [grow, World.drewN], fun k hk => ?_⟩
  simp [grow, World.drewN, Array.getElem?_append, hk]

set_option maxHeartbeats 400000 in
theorem less_gr (S0 K0 T0 V0 X0 S1 K1 T1 V1 X1 : Int) (w : World) :
    Calls Try.prog 39 #[.agg #[.int .i64 S0, .int .i64 K0, .int .u64 T0, .int .u64 V0, .int .i64 X0], .agg #[.int .i64 S1, .int .i64 K1, .int .u64 T1, .int .u64 V1, .int .i64 X1]] w fun e w' => e = .returned (.bool (lessI S0 K0 T0 S1 K1 T1)) ∧ Gr w w' := by
  have hc : S0 ≠ S1 ∨ (S0 = S1 ∧ K0 ≠ K1) ∨ (S0 = S1 ∧ K0 = K1) := by omega
  rcases hc with h | ⟨rfl, h⟩ | ⟨rfl, rfl⟩
  · have hk := hide (show lessI S0 K0 T0 S1 K1 T1 = decide (S0 < S1) by unfold lessI; rw [decide_eq_decide]; omega)
    have hb0 : (S0 != S1) = true := by simp; omega
    go_enter Try.func39, Try.ntmps39
    go_wp2
    go_ret
    refine ⟨ret_eq ?_, gr_trans (gr_alloc _ _) (gr_alloc _ _)⟩
    rw [hk.out]; rfl
  · have hk := hide (show lessI S0 K0 T0 S0 K1 T1 = decide (K0 < K1) by unfold lessI; rw [decide_eq_decide]; omega)
    have hb0 : (K0 != K1) = true := by simp; omega
    go_enter Try.func39, Try.ntmps39
    go_wp2
    go_ret
    refine ⟨ret_eq ?_, gr_trans (gr_alloc _ _) (gr_alloc _ _)⟩
    rw [hk.out]; rfl
  · have hk := hide (show lessI S0 K0 T0 S0 K0 T1 = decide (T0 < T1) by unfold lessI; rw [decide_eq_decide]; omega)
    go_enter Try.func39, Try.ntmps39
    go_wp2
    go_ret
    refine ⟨ret_eq ?_, gr_trans (gr_alloc _ _) (gr_alloc _ _)⟩
    rw [hk.out]; rfl

set_option maxHeartbeats 400000 in
theorem wins_gr (S0 K0 T0 V0 X0 S1 K1 T1 V1 X1 : Int) (w : World) :
    Calls Try.prog 51 #[.agg #[.int .i64 S0, .int .i64 K0, .int .u64 T0, .int .u64 V0, .int .i64 X0], .agg #[.int .i64 S1, .int .i64 K1, .int .u64 T1, .int .u64 V1, .int .i64 X1]] w fun e w' => e = .returned (.bool (winsI V0 X0 V1 X1)) ∧ Gr w w' := by
  have hc : V0 ≠ V1 ∨ V0 = V1 := by omega
  rcases hc with h | rfl
  · have hk := hide (show winsI V0 X0 V1 X1 = decide (V1 < V0) by unfold winsI; rw [decide_eq_decide]; omega)
    have hb0 : (V0 != V1) = true := by simp; omega
    go_enter Try.func51, Try.ntmps51
    go_wp2
    go_ret
    refine ⟨ret_eq ?_, gr_trans (gr_alloc _ _) (gr_alloc _ _)⟩
    rw [hk.out]; rfl
  · have hk := hide (show winsI V0 X0 V0 X1 = decide (X1 < X0) by unfold winsI; rw [decide_eq_decide]; omega)
    go_enter Try.func51, Try.ntmps51
    go_wp2
    go_ret
    refine ⟨ret_eq ?_, gr_trans (gr_alloc _ _) (gr_alloc _ _)⟩
    rw [hk.out]; rfl

/-- What compare answers. -/
def cmpI (a b : It) : Int := if a.less b then -1 else if b.less a then 1 else if a.wins b then -1 else if b.wins a then 1 else 0
theorem cmp_lt (a b : It) : ltOf cmpI a b = true ↔ (a.less b = true ∨ (a.same b = true ∧ a.wins b = true)) := by
  unfold ltOf cmpI
  by_cases h1 : a.less b = true
  · simp [h1]
  · by_cases h2 : b.less a = true
    · have h3 : ¬ a.same b = true := by rw [less_iff] at h2; rw [same_iff]; omega
      simp [h1, h2, h3]
    · have h3 : a.same b = true := by rw [less_iff] at *; rw [same_iff]; omega
      by_cases h4 : a.wins b = true
      · simp [h1, h2, h3, h4]
      · by_cases h5 : b.wins a = true <;> simp [h1, h2, h3, h4, h5]
theorem cmp_nlt (a b : It) : ltOf cmpI a b = false ↔ ¬ (a.less b = true ∨ (a.same b = true ∧ a.wins b = true)) := by rw [← cmp_lt]; simp
theorem cmp_swo : SWO (ltOf cmpI) where
  irrefl x := by rw [cmp_nlt, less_iff, same_iff, wins_iff]; omega
  trans x y z h1 h2 := by rw [cmp_lt, less_iff, same_iff, wins_iff] at *; omega
  ntrans x y z h1 h2 := by rw [cmp_nlt, less_iff, same_iff, wins_iff] at *; omega

set_option maxHeartbeats 1000000 in
theorem compare_core (S0 K0 T0 V0 X0 S1 K1 T1 V1 X1 : Int) (w : World) (o0 o1 o2 o3 : Bool) (h0 : Hid (lessI S0 K0 T0 S1 K1 T1 = o0)) (h1 : Hid (lessI S1 K1 T1 S0 K0 T0 = o1)) (h2 : Hid (winsI V0 X0 V1 X1 = o2)) (h3 : Hid (winsI V1 X1 V0 X0 = o3)) :
    Calls Try.prog 46 #[.agg #[.int .i64 S0, .int .i64 K0, .int .u64 T0, .int .u64 V0, .int .i64 X0], .agg #[.int .i64 S1, .int .i64 K1, .int .u64 T1, .int .u64 V1, .int .i64 X1]] w fun e w' => e = .returned (.int .i64 (if o0 then -1 else if o1 then 1 else if o2 then -1 else if o3 then 1 else 0)) ∧ Gr w w' := by
  go_enter Try.func46, Try.ntmps46
  go_wp2_with fail
  refine (less_gr S0 K0 T0 V0 X0 S1 K1 T1 V1 X1 _).mono ?_
  rw [h0.out]
  rintro e w1 ⟨rfl, g1⟩
  have A0 := (((vi_new w S0 K0 T0 V0 X0).keep ((Below.refl _ _).alloc (Nat.le_refl _) _)).keep (gr_below g1))
  have A1 := ((vi_new (w.alloc (Obj.cells #[Value.int IntKind.i64 S0, Value.int IntKind.i64 K0, Value.int IntKind.u64 T0, Value.int IntKind.u64 V0, Value.int IntKind.i64 X0] 36)) S1 K1 T1 V1 X1).keep (gr_below g1))
  have G1 := hide (gr_trans (gr_trans (gr_alloc _ _) (gr_alloc _ _)) g1)
  clear g1
  rw [show (w.alloc (Obj.cells #[Value.int IntKind.i64 S0, Value.int IntKind.i64 K0, Value.int IntKind.u64 T0, Value.int IntKind.u64 V0, Value.int IntKind.i64 X0] 36)).heap.size = w.heap.size + 1 from by simp] at A1
  have C0 := hide A0
  have C1 := hide A1
  unfold Vi at A0 A1
  obtain ⟨a0, a1, a2, a3, a4⟩ := A0
  obtain ⟨b0, b1, b2, b3, b4⟩ := A1
  cases o0 with
  | true =>
    go_wp2
    go_ret
    exact ⟨rfl, G1.out⟩
  | false =>
    go_wp2_with fail
    refine (less_gr S1 K1 T1 V1 X1 S0 K0 T0 V0 X0 _).mono ?_
    rw [h1.out]
    rintro e w2 ⟨rfl, g2⟩
    clear a0 a1 a2 a3 a4 b0 b1 b2 b3 b4
    have A0 := C0.out.keep (gr_below g2)
    have A1 := C1.out.keep (gr_below g2)
    have G2 := hide (gr_trans G1.out g2)
    clear g2 C0 C1 G1
    have C0 := hide A0
    have C1 := hide A1
    unfold Vi at A0 A1
    obtain ⟨a0, a1, a2, a3, a4⟩ := A0
    obtain ⟨b0, b1, b2, b3, b4⟩ := A1
    cases o1 with
    | true =>
      go_wp2
      go_ret
      exact ⟨rfl, G2.out⟩
    | false =>
      go_wp2_with fail
      refine (wins_gr S0 K0 T0 V0 X0 S1 K1 T1 V1 X1 _).mono ?_
      rw [h2.out]
      rintro e w3 ⟨rfl, g3⟩
      clear a0 a1 a2 a3 a4 b0 b1 b2 b3 b4
      have A0 := C0.out.keep (gr_below g3)
      have A1 := C1.out.keep (gr_below g3)
      have G3 := hide (gr_trans G2.out g3)
      clear g3 C0 C1 G2
      unfold Vi at A0 A1
      obtain ⟨a0, a1, a2, a3, a4⟩ := A0
      obtain ⟨b0, b1, b2, b3, b4⟩ := A1
      cases o2 with
      | true =>
        go_wp2
        go_ret
        exact ⟨rfl, G3.out⟩
      | false =>
        go_wp2_with fail
        refine (wins_gr S1 K1 T1 V1 X1 S0 K0 T0 V0 X0 _).mono ?_
        rw [h3.out]
        rintro e w4 ⟨rfl, g4⟩
        clear a0 a1 a2 a3 a4 b0 b1 b2 b3 b4
        have G4 := hide (gr_trans G3.out g4)
        clear g4
        cases o3 with
        | true =>
          go_wp2
          go_ret
          exact ⟨rfl, G4.out⟩
        | false =>
          go_wp2
          go_ret
          exact ⟨rfl, G4.out⟩
theorem compare_any (a b : It) (w : World) :
    Calls Try.prog 46 #[.agg (cv a).toArray, .agg (cv b).toArray] w fun e w' => e = .returned (.int .i64 (cmpI a b)) ∧ Gr w w' :=
  compare_core a.S a.K a.T a.V a.X b.S b.K b.T b.V b.X w _ _ _ _ (hide rfl) (hide rfl) (hide rfl) (hide rfl)
theorem compare_lays [Inhabited It] (blk off size : Nat) (w : World) : CmpLays Try.prog 46 #[] cv 5 cmpI blk off size w :=
  fun _ _ _ _ x y => compare_any x y _

end Go.Proofs.Ytkkcchklefcljaa.Clep
