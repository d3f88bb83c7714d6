/- What item.grow and item.Key do when called, and the document's own Key: for any item. Conditions: lengths of at most 2^46. -/
import Derived.Test.YtdldpdllhnpdaaaGreatZg
import Derived.Test.YtdldpdllhnpdaaaGreatZa
import Derived.Test.YtdldpdllhnpdaaaGreatZe
import Derived.Test.YtdldpdllhnpdaaaGreatZf
import Derived.Deep.Slices
import Derived.ChangeOld
import Derived.ProofKit
import Derived.OpenShut
namespace Go.Proofs.YtdldpdllhnpdaaaGreat.Clep
open Go.RowKit
set_option linter.unusedVariables false
set_option maxRecDepth 10000

/-- An append of any bytes to a row of the call's own, beside a block R that is not the row's. -/
theorem wpList_append_beside {w : World} {ops : Array Oper} {rest : List Oper} {o : Oper} {a : Act} {Q : Exit → Act → World → Prop} (hgd : o.guard = none) (s x : Operand)
    (ho : o.op = .call { callee := .builtin .append, args := #[s, x], argTypes := #[40, 40] })
    (base : Nat) (v : Value) (xs : List Int) (hs : a.eval s = v) (hown : Own w base v xs) (ao : Option Addr) (len cap : Nat) (ys : List Int) (hx : a.eval x = .slice ao len cap) (hb : Bs w ao len cap ys)
    (hlen : xs.length + len ≤ 70368744177664) (hbase : base ≤ w.heap.size) (R : Nat) (hR : R < w.heap.size) (hav : some R ≠ v.ownBlock)
    (h : ∀ v' w', Own w' base v' (xs ++ ys) → w.grownBy w' v.ownBlock → some R ≠ v'.ownBlock → Below base w w' → wpList Tryz.prog ops Q rest (a.put o.dst v') w') : wpList Tryz.prog ops Q (o :: rest) a w := by
  obtain ⟨i0, hi, hz0, hz1, hz2⟩ := info_parts info5
  cases ao with
  | none =>
    obtain ⟨rfl, rfl⟩ := hb.2.1.2 rfl
    have hy : ys = [] := List.eq_nil_of_length_eq_zero hb.1
    subst hy
    exact wpList_append_own_none hgd s x 40 ho base 5 i0 1 Tryz.underlying40 hi v xs.length (bv xs) hs hown hx (h v w (by rwa [List.append_nil]) (gb_below (Below.refl _ _) _) hav (Below.refl _ _))
  | some ad =>
    refine wpList_append_own_at _ hgd s x 40 ho base 5 i0 (.int .u8 0) 1 1 Tryz.underlying40 hi hz0 hz1 hz2 rfl (by decide) v xs.length (bv xs) hs hown ad len cap (bv ys) hx (by rw [bv_len, hb.1]; omega) (bs_cells hb ad rfl) (bv_one ys)
      (by unfold maxLen; omega) (by omega) hbase ?_
    intro v' w' h1 h2 _ h5
    refine h v' w' ?_ h2 ?_ ((Below.refl _ _).grown h2 hbase (fun k hk => (World.ownsRow.lt hown k hk).1))
    · unfold Own
      rw [List.length_append, hb.1, show bv (xs ++ ys) = bv xs ++ bv ys from by simp [bv]]
      exact h1
    · rcases h5 with h5 | h5
      · rw [h5]; exact hav
      · rw [h5]; intro e; cases e; omega

/-- What an item is in bytes. -/
def ib (S K T V X : Int) : List Int := [S % 256, K % 256] ++ pu T ++ pu V ++ pu (sgn X)
theorem ib_len (S K T V X : Int) : 5 ≤ (ib S K T V X).length ∧ (ib S K T V X).length ≤ 32 := by
  have := pu_len T; have := pu_len V; have := pu_len (sgn X)
  simp [ib]; omega

theorem ownAt_bs {w : World} {B : Nat} {v : Value} {zs : List Int} (h : Own w B v zs) (hz : ∀ z ∈ zs, 0 ≤ z ∧ z < 256) : ∃ ao cap, v = .slice ao zs.length cap ∧ Bs w ao zs.length cap zs := by
  obtain ⟨ao, cap, h1, _, h2, _⟩ := own_bs h (range_of hz)
  exact ⟨ao, cap, h1, h2⟩
theorem bs_new2 (w : World) (a b : Int) (ha : 0 ≤ a ∧ a < 256) (hb : 0 ≤ b ∧ b < 256) : Bs (w.alloc (.cells #[.int .u8 a, .int .u8 b] 5)) (some ⟨w.heap.size, 0, none⟩) 2 2 [a, b] := by
  refine ⟨rfl, ⟨Nat.le_refl _, fun h => by cases h⟩, range_of (by intro z hz; simp only [List.mem_cons, List.not_mem_nil, or_false] at hz; omega), fun _ => ⟨w.heap.size, 0, rfl, fun i hi => ?_⟩⟩
  match i, hi with
  | 0, _ => simp
  | 1, _ => simp

set_option maxHeartbeats 1000000 in
theorem igrow_any (v : Value) (xs : List Int) (B : Nat) (S K T V X : Int) (w : World) (hT : 0 ≤ T ∧ T ≤ 18446744073709551615) (hV : 0 ≤ V ∧ V ≤ 18446744073709551615) (hX : -9223372036854775808 ≤ X ∧ X ≤ 9223372036854775807)
    (h : Own w B v xs) (hB : B ≤ w.heap.size) (hm : xs.length ≤ 1000000000000) :
    Calls Tryz.prog 72 #[v, .agg #[.int .i64 S, .int .i64 K, .int .u64 T, .int .u64 V, .int .i64 X]] w fun e w' => ∃ v', e = .returned v' ∧ Own w' B v' (xs ++ ib S K T V X) ∧ Below B w w' := by
  have lT := pu_len T
  have lV := pu_len V
  have lX := pu_len (sgn X)
  have hsX := sgn_range X hX.1 hX.2
  have HrT := hide (pu_range T hT.1 hT.2)
  have HrV := hide (pu_range V hV.1 hV.2)
  have HrX := hide (pu_range (sgn X) hsX.1 hsX.2)
  have hav : Hid (some w.heap.size ≠ v.ownBlock) := hide fun e => by
    have := (World.ownsRow.lt h _ e.symm).2; omega
  have A0 : Below w.heap.size w (w.alloc (Obj.cells #[Value.int IntKind.i64 S, Value.int IntKind.i64 K, Value.int IntKind.u64 T, Value.int IntKind.u64 V, Value.int IntKind.i64 X] 48)) := (Below.refl _ w).alloc (Nat.le_refl _) _
  have A1 : Below w.heap.size w ((w.alloc (Obj.cells #[Value.int IntKind.i64 S, Value.int IntKind.i64 K, Value.int IntKind.u64 T, Value.int IntKind.u64 V, Value.int IntKind.i64 X] 48)).alloc (Obj.cells #[Value.int IntKind.u8 (S % 256), Value.int IntKind.u8 (K % 256)] 5)) := A0.alloc (by simp) _
  have V1 := hide ((vi_new w S K T V X).keep ((Below.refl _ _).alloc (Nat.le_refl _) (Obj.cells #[Value.int IntKind.u8 (S % 256), Value.int IntKind.u8 (K % 256)] 5)))
  have hs0 : (w.alloc (Obj.cells #[Value.int IntKind.i64 S, Value.int IntKind.i64 K, Value.int IntKind.u64 T, Value.int IntKind.u64 V, Value.int IntKind.i64 X] 48)).heap.size = w.heap.size + 1 := by simp
  have S1 := bs_new2 (w.alloc (Obj.cells #[Value.int IntKind.i64 S, Value.int IntKind.i64 K, Value.int IntKind.u64 T, Value.int IntKind.u64 V, Value.int IntKind.i64 X] 48)) (S % 256) (K % 256) (by omega) (by omega)
  rw [hs0] at S1
  have BS1 := hide S1
  have O1 := hide (own_keep h A1)
  have HB1 := hide (A1.mono hB)
  have hs1 : Hid (w.heap.size < ((w.alloc (Obj.cells #[Value.int IntKind.i64 S, Value.int IntKind.i64 K, Value.int IntKind.u64 T, Value.int IntKind.u64 V, Value.int IntKind.i64 X] 48)).alloc (Obj.cells #[Value.int IntKind.u8 (S % 256), Value.int IntKind.u8 (K % 256)] 5)).heap.size) := hide (by simp; omega)
  clear h A0 A1 S1 hs0
  go_enter Tryz.func72, Tryz.ntmps72
  go_wp2_with (first
    | (at_builtin; refine wpList_append_beside rfl _ _ rfl B _ xs rfl O1.out _ 2 2 _ rfl BS1.out ?c1 ?c2 w.heap.size hs1.out hav.out ?_)
    | fail)
  case c1 => omega
  case c2 => exact Nat.le_trans hB (Nat.le_of_lt hs1.out)
  intro v2 w2 o2 g2 a2 b2
  have O2 := hide o2
  have AV2 := hide a2
  have V2 := hide (V1.out.grown g2 hav.out)
  have HB2 := hide (HB1.out.trans b2)
  have hs2 := hide (Nat.lt_of_lt_of_le hs1.out b2.size)
  clear o2 g2 a2 b2 V1 HB1 hs1 O1 BS1 hav
  have q2 := V2.out
  unfold Vi at q2
  obtain ⟨q0, q1, q2, q3, q4⟩ := q2
  go_wp2_with fail
  refine (put_any none 0 0 [] w2 T hT.1 hT.2 (by omega) (bs_nil _)).mono ?_
  rw [List.nil_append]
  rintro e w3 ⟨v3, rfl, o3, b3⟩
  obtain ⟨ao3, cap3, hv3, s3⟩ := ownAt_bs o3 HrT.out
  rw [hv3]
  have O3 := hide (own_keep O2.out b3)
  have V3 := hide (V2.out.keep b3)
  have HB3 := hide (HB2.out.trans (b3.mono (Nat.le_trans hB (Nat.le_of_lt hs2.out))))
  have hs3 := hide (Nat.lt_of_lt_of_le hs2.out b3.size)
  have S3 := hide s3
  generalize hlT : (pu T).length = LT at *
  clear o3 b3 s3 hv3 O2 V2 HB2 hs2 q0 q1 q2 q3 q4
  go_wp2_with (first
    | (at_builtin; refine wpList_append_beside rfl _ _ rfl B _ _ rfl O3.out ao3 LT cap3 _ rfl S3.out ?d1 ?d2 w.heap.size hs3.out AV2.out ?_)
    | fail)
  case d1 => simp; omega
  case d2 => exact Nat.le_trans hB (Nat.le_of_lt hs3.out)
  intro v4 w4 o4 g4 a4 b4
  have O4 := hide o4
  have AV4 := hide a4
  have V4 := hide (V3.out.grown g4 AV2.out)
  have HB4 := hide (HB3.out.trans b4)
  have hs4 := hide (Nat.lt_of_lt_of_le hs3.out b4.size)
  clear o4 g4 a4 b4 V3 HB3 hs3 O3 S3 AV2
  have q := V4.out
  unfold Vi at q
  obtain ⟨q0, q1, q2, q3, q4⟩ := q
  go_wp2_with fail
  refine (put_any none 0 0 [] w4 V hV.1 hV.2 (by omega) (bs_nil _)).mono ?_
  rw [List.nil_append]
  rintro e w5 ⟨v5, rfl, o, b⟩
  obtain ⟨ao5, cap5, hv, s⟩ := ownAt_bs o HrV.out
  rw [hv]
  have O5 := hide (own_keep O4.out b)
  have V5 := hide (V4.out.keep b)
  have HB5 := hide (HB4.out.trans (b.mono (Nat.le_trans hB (Nat.le_of_lt hs4.out))))
  have hs5 := hide (Nat.lt_of_lt_of_le hs4.out b.size)
  have S5 := hide s
  generalize hLV : (pu (V)).length = LV at *
  clear o b s hv O4 V4 HB4 hs4 q0 q1 q2 q3 q4
  go_wp2_with (first
    | (at_builtin; refine wpList_append_beside rfl _ _ rfl B _ _ rfl O5.out ao5 LV cap5 _ rfl S5.out ?e1 ?e2 w.heap.size hs5.out AV4.out ?_)
    | fail)
  case e1 => simp [hlT]; omega
  case e2 => exact Nat.le_trans hB (Nat.le_of_lt hs5.out)
  intro v6 w6 o6 g6 a6 b6
  have O6 := hide o6
  have AV6 := hide a6
  have V6 := hide (V5.out.grown g6 AV4.out)
  have HB6 := hide (HB5.out.trans b6)
  have hs6 := hide (Nat.lt_of_lt_of_le hs5.out b6.size)
  clear o6 g6 a6 b6 V5 HB5 hs5 O5 S5 AV4
  have q := V6.out
  unfold Vi at q
  obtain ⟨q0, q1, q2, q3, q4⟩ := q
  go_wp2_with fail
  refine (sign_any X w6 hX.1 hX.2).mono ?_
  rintro e w6' ⟨rfl, hw⟩
  rw [hw]
  clear hw
  go_wp2_with fail
  refine (put_any none 0 0 [] w6 (sgn X) hsX.1 hsX.2 (by omega) (bs_nil _)).mono ?_
  rw [List.nil_append]
  rintro e w7 ⟨v7, rfl, o, b⟩
  obtain ⟨ao7, cap7, hv, s⟩ := ownAt_bs o HrX.out
  rw [hv]
  have O7 := hide (own_keep O6.out b)
  have V7 := hide (V6.out.keep b)
  have HB7 := hide (HB6.out.trans (b.mono (Nat.le_trans hB (Nat.le_of_lt hs6.out))))
  have hs7 := hide (Nat.lt_of_lt_of_le hs6.out b.size)
  have S7 := hide s
  generalize hLX : (pu (sgn X)).length = LX at *
  clear o b s hv O6 V6 HB6 hs6 q0 q1 q2 q3 q4
  go_wp2_with (first
    | (at_builtin; refine wpList_append_beside rfl _ _ rfl B _ _ rfl O7.out ao7 LX cap7 _ rfl S7.out ?f1 ?f2 w.heap.size hs7.out AV6.out ?_)
    | fail)
  case f1 => simp [hlT, hLV]; omega
  case f2 => exact Nat.le_trans hB (Nat.le_of_lt hs7.out)
  intro v8 w8 o8 g8 a8 b8
  have O8 := hide o8
  have HB8 := hide (HB7.out.trans b8)
  clear o8 g8 a8 b8 V7 HB7 hs7 O7 S7 AV6
  go_wp2
  go_ret
  refine ⟨_, rfl, ?_, HB8.out⟩
  have := O8.out
  simpa [ib, List.append_assoc] using this

end Go.Proofs.YtdldpdllhnpdaaaGreat.Clep

/- Rows of items: what a slice of items leads to; how many of them may be; their bytes. No conditions. -/
namespace Go.Proofs.YtdldpdllhnpdaaaGreat.Clep
open Go.RowKit
set_option linter.unusedVariables false
set_option maxRecDepth 10000

def It.b (x : It) : List Int := ib x.S x.K x.T x.V x.X
/-- How many of the first k may be. -/
def okc (l : List It) (k : Nat) : Int := (((l.take k).countP It.ok : Nat) : Int)
theorem okc_zero (l : List It) : okc l 0 = 0 := by simp [okc]
theorem okc_succ (l : List It) (k : Nat) (x : It) (h : l[k]? = some x) : okc l (k + 1) = okc l k + if x.ok then 1 else 0 := by
  have hk : k < l.length := (List.getElem?_eq_some_iff.1 h).1
  unfold okc
  rw [List.take_add_one, h]
  simp only [Option.toList, List.countP_append, List.countP_singleton]
  split <;> simp
theorem okc_le (l : List It) (k : Nat) : 0 ≤ okc l k ∧ okc l k ≤ k := by
  unfold okc
  have h1 := List.countP_le_length (p := It.ok) (l := l.take k)
  have h2 : (l.take k).length ≤ k := by rw [List.length_take]; omega
  omega
theorem okc_all (l : List It) : (okc l l.length == (l.length : Int)) = l.all It.ok := by
  unfold okc
  rw [List.take_length, Bool.eq_iff_iff]
  simp only [beq_iff_eq, List.all_eq_true]
  rw [← List.countP_eq_length (p := It.ok) (l := l)]
  omega
/-- The bytes of items. -/
def ibs (l : List It) : List Int := l.flatMap It.b
def ibn (l : List It) : List Int := pu l.length ++ ibs l
theorem ibs_succ (l : List It) (k : Nat) (x : It) (h : l[k]? = some x) : ibs (l.take (k + 1)) = ibs (l.take k) ++ x.b := by
  unfold ibs
  rw [List.take_add_one, h]
  simp [List.flatMap_append, Option.toList]
theorem ibs_len (l : List It) : 5 * l.length ≤ (ibs l).length ∧ (ibs l).length ≤ 32 * l.length := by
  induction l with
  | nil => simp [ibs]
  | cons x r ih =>
    have := ib_len x.S x.K x.T x.V x.X
    have e : (ibs (x :: r)).length = (x.b).length + (ibs r).length := by simp [ibs]
    rw [e, List.length_cons]
    unfold It.b
    omega
theorem ib_range (x : It) (h : x.wf) : ∀ z ∈ x.b, 0 ≤ z ∧ z < 256 := by
  obtain ⟨_, _, hT, hV, hX⟩ := h
  have hs := sgn_range x.X hX.1 hX.2
  unfold It.b ib
  refine cat_range (cat_range (cat_range ?_ (pu_range _ hT.1 hT.2)) (pu_range _ hV.1 hV.2)) (pu_range _ hs.1 hs.2)
  intro z hz
  simp only [List.mem_cons, List.not_mem_nil, or_false] at hz
  omega
theorem ibs_range (l : List It) (h : ∀ x ∈ l, x.wf) : ∀ z ∈ ibs l, 0 ≤ z ∧ z < 256 := by
  intro z hz
  unfold ibs at hz
  obtain ⟨x, hx, hz'⟩ := List.mem_flatMap.1 hz
  exact ib_range x (h x hx) z hz'
theorem ta_new (w : World) : Ta (w.alloc (Obj.cells #[Value.int IntKind.i64 0, Value.int IntKind.i64 0] 125)) w.heap.size 0 0 := by
  unfold Ta; simp [go_sem]

end Go.Proofs.YtdldpdllhnpdaaaGreat.Clep

/- What item.Bytes does when called: for any bytes and any items. Conditions: lengths of at most 2^40. -/
namespace Go.Proofs.YtdldpdllhnpdaaaGreat.Clep
open Go.RowKit
set_option linter.unusedVariables false
set_option maxRecDepth 10000

theorem bytes_long (a0 a1 : Option Addr) (len0 cap0 len1 cap1 : Nat) (w : World) (hl : 2000 < len1) (hm : len1 ≤ 9223372036854775807) :
    Calls Tryz.prog 51 #[.slice a0 len0 cap0, .slice a1 len1 cap1] w fun e w' => e = .returned (.tuple #[.slice none 0 0, .int .i64 2]) ∧ w' = w := by
  go_enter Tryz.func51, Tryz.ntmps51
  go_wp2
  go_ret2
  exact ⟨rfl, rfl⟩

/-- Behind the count: the tally holds how many there are, and how many may be. -/
def By (w w' : World) (R : Nat) (k : Nat) (l : List It) : Prop := Ta w' R k (okc l k) ∧ Below w.heap.size w w' ∧ w.heap.size < w'.heap.size

set_option maxHeartbeats 1000000 in
theorem bytes_core (a0 a1 : Option Addr) (len0 cap0 len1 cap1 : Nat) (zs : List Int) (l : List It) (w : World) (hl : len1 ≤ 2000) (hm : len0 ≤ 500000000000) (h0 : Bs w a0 len0 cap0 zs) (h1 : Is w a1 len1 cap1 l) (o : Bool) (ho : Hid (l.all It.ok = o)) :
    Calls Tryz.prog 51 #[.slice a0 len0 cap0, .slice a1 len1 cap1] w fun e w' => (∃ v, e = .returned (if o then .tuple #[v, .int .i64 0] else .tuple #[.slice none 0 0, .int .i64 1]) ∧ (o = true → Own w' w.heap.size v (zs ++ ibn l))) ∧ Below w.heap.size w w' := by
  have hl1 := h1.1
  have H0 := hide (fun W (hW : Below w.heap.size w W) => h0.below hW (Nat.le_refl _))
  have H1 := hide (fun W (hW : Below w.heap.size w W) => h1.below hW (Nat.le_refl _))
  have HL := hide hl1
  have hz0 := hide h0.1
  clear h0 h1
  have B0 := hide (show By w (w.alloc (Obj.cells #[Value.int IntKind.i64 0, Value.int IntKind.i64 0] 125)) w.heap.size 0 l from ⟨by rw [okc_zero]; exact ta_new w, (Below.refl _ w).alloc (Nat.le_refl _) _, by simp⟩)
  go_enter Tryz.func51, Tryz.ntmps51
  go_wp2_with fail
  go_loopw [17] (fun i wr => ∃ k : Nat, k ≤ len1 ∧ i = .int .i64 k ∧ Hid (By w wr w.heap.size k l)) (fun i _ => len1 - (intOf i).toNat)
  case atStart => exact ⟨0, by omega, rfl, B0⟩
  case round =>
    obtain ⟨k, hk, rfl, hby⟩ := hrel
    by_cases hlt : k < len1
    · have hI := H1.out _ hby.out.2.1
      obtain ⟨b, off, rfl, hc⟩ := hI.2.2.2 (by omega)
      obtain ⟨x, hx⟩ : ∃ x, l[k]? = some x := ⟨_, List.getElem?_eq_getElem (by rw [hl1]; exact hlt)⟩
      have hxw := hide (hI.2.2.1 x (List.mem_of_getElem? hx))
      have hv := hc k x hx
      have HS := hide (okc_succ l k x hx)
      have hkc := okc_le l k
      unfold It.ok at HS
      obtain ⟨S, K, T, V, X⟩ := x
      unfold Vt Vi at hv
      simp only at hv HS
      obtain ⟨v0, v1, v2, v3, v4⟩ := hv
      clear hI hc hx
      go_wp2_with fail
      refine (count_any w.heap.size k (okc l k) S K T V X _ (hby.out.1.keep ((Below.refl _ wr).alloc (Nat.le_refl _) _)) (by omega) (by omega)).mono ?_
      rw [← HS.out]
      rintro e w1 ⟨rfl, t1, g1⟩
      have B1 := hide (show By w w1 w.heap.size (k + 1) l from ⟨t1, (hby.out.2.1.alloc hby.out.2.1.size _).grown g1 (by have := hby.out.2.1.size; simp; omega) (fun j hj => by cases hj; exact Nat.le_refl _), Nat.lt_of_lt_of_le hby.out.2.2 (Nat.le_trans (by simp) g1.size)⟩)
      clear t1 g1 hby HS v0 v1 v2 v3 v4
      go_wp2
      go_roundw
      case rel => exact ⟨k + 1, by omega, by go_num, B1⟩
      case measure => simp [intOf]; omega
    · obtain rfl : k = len1 := by omega
      have HE := hide (show (okc l k == (k : Int)) = o by rw [← ho.out, ← okc_all, HL.out])
      clear ho
      go_wp2_with fail
      refine (allfine_any w.heap.size k (okc l k) wr hby.out.1).mono ?_
      rw [HE.out]
      rintro e w1 ⟨rfl, b1⟩
      have BW := hide (bmore hby.out.2.1 b1)
      clear hby b1 HE
      cases o with
      | false =>
        go_wp2
        go_ret2
        exact ⟨rfl, BW.out⟩
      | true =>
        go_wp2_with fail
        refine (put_any a0 len0 cap0 zs w1 k (by omega) (by omega) (by omega) (H0.out _ BW.out)).mono ?_
        rintro e w2 ⟨v2, rfl, o2, b2⟩
        have O2 := hide (show Own w2 w.heap.size v2 (zs ++ pu k) from own_base o2 BW.out.size)
        have BX := hide (bmore BW.out b2)
        have hsz := hide (show zs.length + (pu k).length ≤ 500000000010 by have := pu_len k; have := hz0.out; omega)
        clear o2 b2 BW
        go_wp2_with fail
        go_loopw [9, 33] (fun u i wr => ∃ j : Nat, j ≤ k ∧ i = .int .i64 j ∧ Hid (Own wr w.heap.size u (zs ++ pu k ++ ibs (l.take j))) ∧ Hid (Below w.heap.size w wr)) (fun _ i _ => k - (intOf i).toNat)
        case atStart => exact ⟨0, by omega, rfl, hide (by simpa [ibs] using O2.out), BX⟩
        case round =>
          obtain ⟨j, hj, rfl, hown, hbel⟩ := hrel
          by_cases hlt : j < k
          · have hI := H1.out _ hbel.out
            obtain ⟨b, off, rfl, hc⟩ := hI.2.2.2 (by omega)
            obtain ⟨x, hx⟩ : ∃ x, l[j]? = some x := ⟨_, List.getElem?_eq_getElem (by rw [hl1]; exact hlt)⟩
            have hxw := hI.2.2.1 x (List.mem_of_getElem? hx)
            have hv := hc j x hx
            have HS := hide (ibs_succ l j x hx)
            have hle := hide (ibs_len (l.take j))
            unfold It.b at HS
            unfold It.wf at hxw
            obtain ⟨S, K, T, V, X⟩ := x
            unfold Vt Vi at hv
            simp only at hv HS hxw
            obtain ⟨v0, v1, v2, v3, v4⟩ := hv
            obtain ⟨_, _, hT, hV, hX⟩ := hxw
            clear hI hc hx
            go_wp2_with fail
            refine (igrow_any _ _ w.heap.size S K T V X _ hT hV hX (own_keep hown.out ((Below.refl _ wr).alloc (Nat.le_refl _) _)) (by have := hbel.out.size; simp; omega) (by
              have h5 := hle.out; have := hsz.out; rw [List.length_take] at h5; simp only [List.length_append]; omega)).mono ?_
            rintro e w3 ⟨v3', rfl, o3, b3⟩
            have O3 := hide (show Own w3 w.heap.size v3' (zs ++ pu k ++ ibs (l.take (j + 1))) by rw [HS.out, ← List.append_assoc]; exact o3)
            have B3 := hide ((hbel.out.alloc hbel.out.size _).trans b3)
            clear o3 b3 hown hbel v0 v1 v2 v3 v4 HS
            go_wp2
            go_roundw
            case rel => exact ⟨j + 1, by omega, by go_num, O3, B3⟩
            case measure => simp [intOf]; omega
          · obtain rfl : j = k := by omega
            have O3 := hide (show Own wr w.heap.size _ (zs ++ ibn l) by
              have := hown.out
              rw [show l.take j = l from by rw [← HL.out]; exact List.take_length, List.append_assoc] at this
              unfold ibn; rw [HL.out]; exact this)
            clear hown
            go_wp2
            go_ret2
            exact ⟨⟨_, rfl, O3.out⟩, hbel.out⟩
  
theorem bytes_bad (a0 a1 : Option Addr) (len0 cap0 len1 cap1 : Nat) (zs : List Int) (l : List It) (w : World) (hl : len1 ≤ 2000) (hm : len0 ≤ 500000000000) (h0 : Bs w a0 len0 cap0 zs) (h1 : Is w a1 len1 cap1 l) (ho : l.all It.ok = false) :
    Calls Tryz.prog 51 #[.slice a0 len0 cap0, .slice a1 len1 cap1] w fun e w' => e = .returned (.tuple #[.slice none 0 0, .int .i64 1]) ∧ Below w.heap.size w w' :=
  (bytes_core a0 a1 len0 cap0 len1 cap1 zs l w hl hm h0 h1 false ho).mono fun _ _ ⟨⟨_, h, _⟩, hb⟩ => ⟨h, hb⟩
theorem bytes_any (a0 a1 : Option Addr) (len0 cap0 len1 cap1 : Nat) (zs : List Int) (l : List It) (w : World) (hl : len1 ≤ 2000) (hm : len0 ≤ 500000000000) (h0 : Bs w a0 len0 cap0 zs) (h1 : Is w a1 len1 cap1 l) (ho : l.all It.ok = true) :
    Calls Tryz.prog 51 #[.slice a0 len0 cap0, .slice a1 len1 cap1] w fun e w' => ∃ v, e = .returned (.tuple #[v, .int .i64 0]) ∧ Own w' w.heap.size v (zs ++ ibn l) ∧ Below w.heap.size w w' :=
  (bytes_core a0 a1 len0 cap0 len1 cap1 zs l w hl hm h0 h1 true ho).mono fun _ _ ⟨⟨v, h, ho⟩, hb⟩ => ⟨v, h, ho rfl, hb⟩

end Go.Proofs.YtdldpdllhnpdaaaGreat.Clep

/- Items that come in: an item by value, and a row of items, opened. No conditions. -/
namespace Go.Proofs.YtdldpdllhnpdaaaGreat.Clep
open Go.RowKit Go.ChangeShapes Go.WideShapes Go.Deep
set_option linter.unusedVariables false
set_option maxRecDepth 10000

section
variable {H : Type} {enc : TypeId × Value → H} {W : World} {base : Nat} {spare : Nat → Bool} {held : Bool}

end

end Go.Proofs.YtdldpdllhnpdaaaGreat.Clep
