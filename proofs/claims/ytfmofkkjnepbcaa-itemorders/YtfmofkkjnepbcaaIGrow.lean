/- What item.grow and item.Key do when called, and the document's own Key: for any item. Conditions: lengths of at most 2^46. -/
import Derived.Test.YtfmofkkjnepbcaaITally
import Derived.Test.YtfmofkkjnepbcaaNPut
import Derived.Test.YtfmofkkjnepbcaaNEight
import Derived.Test.YtfmofkkjnepbcaaAppend
namespace Go.Proofs.Ytfmofkkjnepbcaa.Clep
open Go.RowKit
set_option linter.unusedVariables false

/-- An append of any bytes to a row of the call's own, beside a block R that is not the row's. -/
theorem wpList_append_beside {w : World} {ops : Array Oper} {rest : List Oper} {o : Oper} {a : Act} {Q : Exit → Act → World → Prop} (hgd : o.guard = none) (s x : Operand)
    (ho : o.op = .call { callee := .builtin .append, args := #[s, x], argTypes := #[27, 27] })
    (base : Nat) (v : Value) (xs : List Int) (hs : a.eval s = v) (hown : Own w base v xs) (ao : Option Addr) (len cap : Nat) (ys : List Int) (hx : a.eval x = .slice ao len cap) (hb : Bs w ao len cap ys)
    (hlen : xs.length + len ≤ 70368744177664) (hbase : base ≤ w.heap.size) (R : Nat) (hR : R < w.heap.size) (hav : some R ≠ v.ownBlock)
    (h : ∀ v' w', Own w' base v' (xs ++ ys) → w.grownBy w' v.ownBlock → some R ≠ v'.ownBlock → Below base w w' → wpList Try.prog ops Q rest (a.put o.dst v') w') : wpList Try.prog ops Q (o :: rest) a w := by
  obtain ⟨i0, hi, hz0, hz1, hz2⟩ := info_parts info5
  cases ao with
  | none =>
    obtain ⟨rfl, rfl⟩ := hb.2.1.2 rfl
    have hy : ys = [] := List.eq_nil_of_length_eq_zero hb.1
    subst hy
    exact wpList_append_own_none hgd s x 27 ho base 5 i0 1 Try.underlying27 hi v xs.length (bv xs) hs hown hx (h v w (by rwa [List.append_nil]) (gb_below (Below.refl _ _) _) hav (Below.refl _ _))
  | some ad =>
    refine wpList_append_own_at _ hgd s x 27 ho base 5 i0 (.int .u8 0) 1 1 Try.underlying27 hi hz0 hz1 hz2 rfl (by decide) v xs.length (bv xs) hs hown ad len cap (bv ys) hx (by rw [bv_len, hb.1]; omega) (bs_cells hb ad rfl) (bv_one ys)
      (by unfold maxLen; omega) (by omega) hbase ?_
    intro v' w' h1 h2 _ h5
    refine h v' w' ?_ h2 ?_ ((Below.refl _ _).grown h2 hbase (fun k hk => (World.ownsRow.lt hown k hk).1))
    · unfold Own
      rw [List.length_append, hb.1, show bv (xs ++ ys) = bv xs ++ bv ys from by simp [bv]]
      exact h1
    · rcases h5 with h5 | h5
      · rw [h5]; exact hav
      · rw [h5]; intro e; cases e; omega

/-- What an item is in bytes. -/
def ib (S K T V X : Int) : List Int := [S % 256, K % 256] ++ pu T ++ pu V ++ pu (sgn X)
theorem ib_len (S K T V X : Int) : 5 ≤ (ib S K T V X).length ∧ (ib S K T V X).length ≤ 32 := by
  have := pu_len T; have := pu_len V; have := pu_len (sgn X)
  simp [ib]; omega

theorem ownAt_bs {w : World} {B : Nat} {v : Value} {zs : List Int} (h : Own w B v zs) (hz : ∀ z ∈ zs, 0 ≤ z ∧ z < 256) : ∃ ao cap, v = .slice ao zs.length cap ∧ Bs w ao zs.length cap zs := by
  obtain ⟨ao, cap, h1, _, h2, _⟩ := own_bs h (range_of hz)
  exact ⟨ao, cap, h1, h2⟩
theorem bs_new2 (w : World) (a b : Int) (ha : 0 ≤ a ∧ a < 256) (hb : 0 ≤ b ∧ b < 256) : Bs (w.alloc (.cells #[.int .u8 a, .int .u8 b] 5)) (some ⟨w.heap.size, 0, none⟩) 2 2 [a, b] := by
  refine ⟨rfl, ⟨Nat.le_refl _, fun h => by cases h⟩, range_of (by intro z hz; simp only [List.mem_cons, List.not_mem_nil, or_false] at hz; omega), fun _ => ⟨w.heap.size, 0, rfl, fun i hi => ?_⟩⟩
  match i, hi with
  | 0, _ => simp
  | 1, _ => simp

set_option maxHeartbeats 1000000 in
theorem igrow_any (v : Value) (xs : List Int) (B : Nat) (S K T V X : Int) (w : World) (hT : 0 ≤ T ∧ T ≤ 18446744073709551615) (hV : 0 ≤ V ∧ V ≤ 18446744073709551615) (hX : -9223372036854775808 ≤ X ∧ X ≤ 9223372036854775807)
    (h : Own w B v xs) (hB : B ≤ w.heap.size) (hm : xs.length ≤ 1000000000000) :
    Calls Try.prog 34 #[v, .agg #[.int .i64 S, .int .i64 K, .int .u64 T, .int .u64 V, .int .i64 X]] w fun e w' => ∃ v', e = .returned v' ∧ Own w' B v' (xs ++ ib S K T V X) ∧ Below B w w' := by
  have lT := pu_len T
  have lV := pu_len V
  have lX := pu_len (sgn X)
  have hsX := sgn_range X hX.1 hX.2
  have HrT := hide (pu_range T hT.1 hT.2)
  have HrV := hide (pu_range V hV.1 hV.2)
  have HrX := hide (pu_range (sgn X) hsX.1 hsX.2)
  have hav : Hid (some w.heap.size ≠ v.ownBlock) := hide fun e => by
    have := (World.ownsRow.lt h _ e.symm).2; omega
  have A0 : Below w.heap.size w (w.alloc (Obj.cells #[Value.int IntKind.i64 S, Value.int IntKind.i64 K, Value.int IntKind.u64 T, Value.int IntKind.u64 V, Value.int IntKind.i64 X] 24)) := (Below.refl _ w).alloc (Nat.le_refl _) _
  have A1 : Below w.heap.size w ((w.alloc (Obj.cells #[Value.int IntKind.i64 S, Value.int IntKind.i64 K, Value.int IntKind.u64 T, Value.int IntKind.u64 V, Value.int IntKind.i64 X] 24)).alloc (Obj.cells #[Value.int IntKind.u8 (S % 256), Value.int IntKind.u8 (K % 256)] 5)) := A0.alloc (by simp) _
  have V1 := hide ((vi_new w S K T V X).keep ((Below.refl _ _).alloc (Nat.le_refl _) (Obj.cells #[Value.int IntKind.u8 (S % 256), Value.int IntKind.u8 (K % 256)] 5)))
  have hs0 : (w.alloc (Obj.cells #[Value.int IntKind.i64 S, Value.int IntKind.i64 K, Value.int IntKind.u64 T, Value.int IntKind.u64 V, Value.int IntKind.i64 X] 24)).heap.size = w.heap.size + 1 := by simp
  have S1 := bs_new2 (w.alloc (Obj.cells #[Value.int IntKind.i64 S, Value.int IntKind.i64 K, Value.int IntKind.u64 T, Value.int IntKind.u64 V, Value.int IntKind.i64 X] 24)) (S % 256) (K % 256) (by omega) (by omega)
  rw [hs0] at S1
  have BS1 := hide S1
  have O1 := hide (own_keep h A1)
  have HB1 := hide (A1.mono hB)
  have hs1 : Hid (w.heap.size < ((w.alloc (Obj.cells #[Value.int IntKind.i64 S, Value.int IntKind.i64 K, Value.int IntKind.u64 T, Value.int IntKind.u64 V, Value.int IntKind.i64 X] 24)).alloc (Obj.cells #[Value.int IntKind.u8 (S % 256), Value.int IntKind.u8 (K % 256)] 5)).heap.size) := hide (by simp; omega)
  clear h A0 A1 S1 hs0
  go_enter Try.func34, Try.ntmps34
  go_wp2_with (first
    | (at_builtin; refine wpList_append_beside rfl _ _ rfl B _ xs rfl O1.out _ 2 2 _ rfl BS1.out ?c1 ?c2 w.heap.size hs1.out hav.out ?_)
    | fail)
  case c1 => omega
  case c2 => exact Nat.le_trans hB (Nat.le_of_lt hs1.out)
  intro v2 w2 o2 g2 a2 b2
  have O2 := hide o2
  have AV2 := hide a2
  have V2 := hide (V1.out.grown g2 hav.out)
  have HB2 := hide (HB1.out.trans b2)
  have hs2 := hide (Nat.lt_of_lt_of_le hs1.out b2.size)
  clear o2 g2 a2 b2 V1 HB1 hs1 O1 BS1 hav
  have q2 := V2.out
  unfold Vi at q2
  obtain ⟨q0, q1, q2, q3, q4⟩ := q2
  go_wp2_with fail
  refine (put_any none 0 0 [] w2 T hT.1 hT.2 (by omega) (bs_nil _)).mono ?_
  rw [List.nil_append]
  rintro e w3 ⟨v3, rfl, o3, b3⟩
  obtain ⟨ao3, cap3, hv3, s3⟩ := ownAt_bs o3 HrT.out
  rw [hv3]
  have O3 := hide (own_keep O2.out b3)
  have V3 := hide (V2.out.keep b3)
  have HB3 := hide (HB2.out.trans (b3.mono (Nat.le_trans hB (Nat.le_of_lt hs2.out))))
  have hs3 := hide (Nat.lt_of_lt_of_le hs2.out b3.size)
  have S3 := hide s3
  generalize hlT : (pu T).length = LT at *
  clear o3 b3 s3 hv3 O2 V2 HB2 hs2 q0 q1 q2 q3 q4
  go_wp2_with (first
    | (at_builtin; refine wpList_append_beside rfl _ _ rfl B _ _ rfl O3.out ao3 LT cap3 _ rfl S3.out ?d1 ?d2 w.heap.size hs3.out AV2.out ?_)
    | fail)
  case d1 => simp; omega
  case d2 => exact Nat.le_trans hB (Nat.le_of_lt hs3.out)
  intro v4 w4 o4 g4 a4 b4
  have O4 := hide o4
  have AV4 := hide a4
  have V4 := hide (V3.out.grown g4 AV2.out)
  have HB4 := hide (HB3.out.trans b4)
  have hs4 := hide (Nat.lt_of_lt_of_le hs3.out b4.size)
  clear o4 g4 a4 b4 V3 HB3 hs3 O3 S3 AV2
  have q := V4.out
  unfold Vi at q
  obtain ⟨q0, q1, q2, q3, q4⟩ := q
  go_wp2_with fail
  refine (put_any none 0 0 [] w4 V hV.1 hV.2 (by omega) (bs_nil _)).mono ?_
  rw [List.nil_append]
  rintro e w5 ⟨v5, rfl, o, b⟩
  obtain ⟨ao5, cap5, hv, s⟩ := ownAt_bs o HrV.out
  rw [hv]
  have O5 := hide (own_keep O4.out b)
  have V5 := hide (V4.out.keep b)
  have HB5 := hide (HB4.out.trans (b.mono (Nat.le_trans hB (Nat.le_of_lt hs4.out))))
  have hs5 := hide (Nat.lt_of_lt_of_le hs4.out b.size)
  have S5 := hide s
  generalize hLV : (pu (V)).length = LV at *
  clear o b s hv O4 V4 HB4 hs4 q0 q1 q2 q3 q4
  go_wp2_with (first
    | (at_builtin; refine wpList_append_beside rfl _ _ rfl B _ _ rfl O5.out ao5 LV cap5 _ rfl S5.out ?e1 ?e2 w.heap.size hs5.out AV4.out ?_)
    | fail)
  case e1 => simp [hlT]; omega
  case e2 => exact Nat.le_trans hB (Nat.le_of_lt hs5.out)
  intro v6 w6 o6 g6 a6 b6
  have O6 := hide o6
  have AV6 := hide a6
  have V6 := hide (V5.out.grown g6 AV4.out)
  have HB6 := hide (HB5.out.trans b6)
  have hs6 := hide (Nat.lt_of_lt_of_le hs5.out b6.size)
  clear o6 g6 a6 b6 V5 HB5 hs5 O5 S5 AV4
  have q := V6.out
  unfold Vi at q
  obtain ⟨q0, q1, q2, q3, q4⟩ := q
  go_wp2_with fail
  refine (sign_any X w6 hX.1 hX.2).mono ?_
  rintro e w6' ⟨rfl, hw⟩
  rw [hw]
  clear hw
  go_wp2_with fail
  refine (put_any none 0 0 [] w6 (sgn X) hsX.1 hsX.2 (by omega) (bs_nil _)).mono ?_
  rw [List.nil_append]
  rintro e w7 ⟨v7, rfl, o, b⟩
  obtain ⟨ao7, cap7, hv, s⟩ := ownAt_bs o HrX.out
  rw [hv]
  have O7 := hide (own_keep O6.out b)
  have V7 := hide (V6.out.keep b)
  have HB7 := hide (HB6.out.trans (b.mono (Nat.le_trans hB (Nat.le_of_lt hs6.out))))
  have hs7 := hide (Nat.lt_of_lt_of_le hs6.out b.size)
  have S7 := hide s
  generalize hLX : (pu (sgn X)).length = LX at *
  clear o b s hv O6 V6 HB6 hs6 q0 q1 q2 q3 q4
  go_wp2_with (first
    | (at_builtin; refine wpList_append_beside rfl _ _ rfl B _ _ rfl O7.out ao7 LX cap7 _ rfl S7.out ?f1 ?f2 w.heap.size hs7.out AV6.out ?_)
    | fail)
  case f1 => simp [hlT, hLV]; omega
  case f2 => exact Nat.le_trans hB (Nat.le_of_lt hs7.out)
  intro v8 w8 o8 g8 a8 b8
  have O8 := hide o8
  have HB8 := hide (HB7.out.trans b8)
  clear o8 g8 a8 b8 V7 HB7 hs7 O7 S7 AV6
  go_wp2
  go_ret
  refine ⟨_, rfl, ?_, HB8.out⟩
  have := O8.out
  simpa [ib, List.append_assoc] using this

set_option maxHeartbeats 400000 in
theorem key_any (S K T V X : Int) (w : World) (hT : 0 ≤ T ∧ T ≤ 18446744073709551615) :
    Calls Try.prog 19 #[.agg #[.int .i64 S, .int .i64 K, .int .u64 T, .int .u64 V, .int .i64 X]] w fun e w' => ∃ v, e = .returned v ∧ Own w' w.heap.size v ([S % 256, K % 256] ++ e8 T 8) ∧ Below w.heap.size w w' := by
  have A1 := hide (((Below.refl _ w).alloc (Nat.le_refl _) (Obj.cells #[Value.int IntKind.i64 S, Value.int IntKind.i64 K, Value.int IntKind.u64 T, Value.int IntKind.u64 V, Value.int IntKind.i64 X] 24)).alloc (by simp) (Obj.cells #[Value.int IntKind.u8 (S % 256), Value.int IntKind.u8 (K % 256)] 5))
  have hs0 : (w.alloc (Obj.cells #[Value.int IntKind.i64 S, Value.int IntKind.i64 K, Value.int IntKind.u64 T, Value.int IntKind.u64 V, Value.int IntKind.i64 X] 24)).heap.size = w.heap.size + 1 := by simp
  have S1 := bs_new2 (w.alloc (Obj.cells #[Value.int IntKind.i64 S, Value.int IntKind.i64 K, Value.int IntKind.u64 T, Value.int IntKind.u64 V, Value.int IntKind.i64 X] 24)) (S % 256) (K % 256) (by omega) (by omega)
  rw [hs0] at S1
  have BS1 := hide S1
  have hs1 := hide (show w.heap.size ≤ ((w.alloc (Obj.cells #[Value.int IntKind.i64 S, Value.int IntKind.i64 K, Value.int IntKind.u64 T, Value.int IntKind.u64 V, Value.int IntKind.i64 X] 24)).alloc (Obj.cells #[Value.int IntKind.u8 (S % 256), Value.int IntKind.u8 (K % 256)] 5)).heap.size by simp; omega)
  clear S1 hs0
  go_enter Try.func19, Try.ntmps19
  go_wp2_with fail
  refine (eight_any _ 2 2 [S % 256, K % 256] _ T hT.1 hT.2 (by omega) BS1.out).mono ?_
  rintro e w2 ⟨v, rfl, o, b⟩
  have O := hide (own_base o hs1.out)
  have HB := hide (bmore A1.out b)
  clear o b
  go_wp2
  go_ret
  exact ⟨_, rfl, O.out, HB.out⟩

end Go.Proofs.Ytfmofkkjnepbcaa.Clep
