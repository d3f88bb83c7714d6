/- Rows of items: what a slice of items leads to; rows of items that a call made, one item more. Conditions: at most 2^40 items. -/
import Derived.Test.YtkkcchklefcljaaIVar
import Derived.Maps.AppendAt
import Derived.Laws.AppendOwnNone
import Derived.Deep.RegionHeldLaw
import Derived.BigRegion
import Derived.Laws.StructEq
namespace Go.Proofs.Ytkkcchklefcljaa.Clep
open Go.RowKit
set_option linter.unusedVariables false
set_option maxRecDepth 10000

theorem gb_below {w w' : World} (h : Below w.heap.size w w') (row : Option Nat) : w.grownBy w' row := ⟨h.os, h.tape, h.output, h.size, fun i hi _ => h.block i hi⟩
theorem gb_set (w : World) (p : Addr) (u : Value) : w.grownBy (w.setCell p u) (some p.block) :=
  ⟨rfl, rfl, rfl, by simp [World.setCell], fun i hi hne => Below.heap_setCell _ _ _ _ (fun e => hne (by rw [e]))⟩
theorem gb_cell {w w' : World} {row : Option Nat} (hg : w.grownBy w' row) (a : Addr) {v : Value} (h : w.cell? a = some v) (hne : some a.block ≠ row) : w'.cell? a = some v := by
  rw [World.cell?_of_block (w := w) (hg.block a.block (World.block_lt_of_cell? w _ h) hne)]; exact h
theorem Vi.grown {w w' : World} {R o : Nat} {S K T V X : Int} {row : Option Nat} (h : Vi w R o S K T V X) (hg : w.grownBy w' row) (hne : some R ≠ row) : Vi w' R o S K T V X := by
  obtain ⟨h0, h1, h2, h3, h4⟩ := h
  exact ⟨gb_cell hg _ h0 hne, gb_cell hg _ h1 hne, gb_cell hg _ h2 hne, gb_cell hg _ h3 hne, gb_cell hg _ h4 hne⟩
/-- An item. -/
structure It where
  S : Int
  K : Int
  T : Int
  V : Int
  X : Int
def It.ok (x : It) : Bool := okI x.S x.K x.T x.V x.X
def It.wf (x : It) : Prop := (-9223372036854775808 ≤ x.S ∧ x.S ≤ 9223372036854775807) ∧ (-9223372036854775808 ≤ x.K ∧ x.K ≤ 9223372036854775807) ∧ (0 ≤ x.T ∧ x.T ≤ 18446744073709551615) ∧ (0 ≤ x.V ∧ x.V ≤ 18446744073709551615) ∧ (-9223372036854775808 ≤ x.X ∧ x.X ≤ 9223372036854775807)
def Vt (w : World) (R o : Nat) (x : It) : Prop := Vi w R o x.S x.K x.T x.V x.X
/-- The slice value (ao, len, cap) leads to the items l in w. -/
def Is (w : World) (ao : Option Addr) (len cap : Nat) (l : List It) : Prop :=
  l.length = len ∧ (len ≤ cap ∧ (ao = none → len = 0 ∧ cap = 0)) ∧ (∀ x ∈ l, x.wf) ∧
    (0 < len → ∃ b off, ao = some ⟨b, off, none⟩ ∧ ∀ i x, l[i]? = some x → Vt w b (off + i * 5) x)
theorem is_nil (w : World) : Is w none 0 0 [] := ⟨rfl, ⟨Nat.le_refl _, fun _ => ⟨rfl, rfl⟩⟩, by simp, fun h => by omega⟩
theorem Is.below {w w' : World} {B : Nat} {ao : Option Addr} {len cap : Nat} {l : List It} (h : Is w ao len cap l) (hb : Below B w w') (hB : w.heap.size ≤ B) : Is w' ao len cap l := by
  refine ⟨h.1, h.2.1, h.2.2.1, fun h0 => ?_⟩
  obtain ⟨b, off, ho, hc⟩ := h.2.2.2 h0
  refine ⟨b, off, ho, fun i x hi => ?_⟩
  have := hc i x hi
  exact this.below hb (Nat.lt_of_lt_of_le this.lt hB)
theorem Is.grown {w w' : World} {row : Option Nat} {b off len cap : Nat} {l : List It} (h : Is w (some ⟨b, off, none⟩) len cap l) (hg : w.grownBy w' row) (hne : some b ≠ row) : Is w' (some ⟨b, off, none⟩) len cap l := by
  refine ⟨h.1, h.2.1, h.2.2.1, fun h0 => ?_⟩
  obtain ⟨b', off', ho, hc⟩ := h.2.2.2 h0
  cases ho
  exact ⟨b, off, rfl, fun i x hi => (hc i x hi).grown hg hne⟩
theorem is_one (w : World) (S K T V X : Int) (hw : It.wf ⟨S, K, T, V, X⟩) : Is (w.alloc (Obj.cells #[Value.int IntKind.i64 S, Value.int IntKind.i64 K, Value.int IntKind.u64 T, Value.int IntKind.u64 V, Value.int IntKind.i64 X] 36)) (some ⟨w.heap.size, 0, none⟩) 1 1 [⟨S, K, T, V, X⟩] := by
  refine ⟨rfl, ⟨Nat.le_refl _, fun h => by cases h⟩, fun x hx => by rw [List.mem_singleton.1 hx]; exact hw, fun _ => ⟨w.heap.size, 0, rfl, fun i x hi => ?_⟩⟩
  cases i with
  | zero =>
    simp at hi
    subst hi
    exact vi_new w S K T V X
  | succ i => simp at hi
/-- A variable that holds an item, and may be written. -/
def Vx (w : World) (R : Nat) (S K T V X : Int) : Prop := Vi w R 0 S K T V X ∧ Vf w R 0
theorem Vx.lt {w : World} {R : Nat} {S K T V X : Int} (h : Vx w R S K T V X) : R < w.heap.size := h.1.lt
theorem Vx.grown {w w' : World} {R : Nat} {S K T V X : Int} {row : Option Nat} (h : Vx w R S K T V X) (hg : w.grownBy w' row) (hne : some R ≠ row) : Vx w' R S K T V X := by
  have hb := hg.block R h.lt hne
  refine ⟨h.1.grown hg hne, ?_⟩
  obtain ⟨h0, h1, h2, h3, h4⟩ := h.2
  exact ⟨(World.frozen?_of_block (a := ⟨R, 0, none⟩) (w := w) hb).trans h0, (World.frozen?_of_block (a := ⟨R, 0 + 1, none⟩) (w := w) hb).trans h1, (World.frozen?_of_block (a := ⟨R, 0 + 2, none⟩) (w := w) hb).trans h2, (World.frozen?_of_block (a := ⟨R, 0 + 3, none⟩) (w := w) hb).trans h3, (World.frozen?_of_block (a := ⟨R, 0 + 4, none⟩) (w := w) hb).trans h4⟩
theorem vx_new (w : World) (S K T V X : Int) : Vx (w.alloc (Obj.cells #[Value.int IntKind.i64 S, Value.int IntKind.i64 K, Value.int IntKind.u64 T, Value.int IntKind.u64 V, Value.int IntKind.i64 X] 36)) w.heap.size S K T V X := ⟨vi_new w S K T V X, vf_new w S K T V X⟩
def cv (x : It) : List Value := [.int .i64 x.S, .int .i64 x.K, .int .u64 x.T, .int .u64 x.V, .int .i64 x.X]
def cvs (l : List It) : List Value := l.flatMap cv
theorem cvs_len (l : List It) : (cvs l).length = l.length * 5 := by
  induction l with
  | nil => rfl
  | cons x r ih => simp [cvs, cv] at ih ⊢; omega
theorem cvs_get (l : List It) : ∀ (i j : Nat) (x : It), l[i]? = some x → j < 5 → (cvs l)[i * 5 + j]? = (cv x)[j]? := by
  induction l with
  | nil => intro i j x h; simp at h
  | cons y r ih =>
    intro i j x h hj
    have e : cvs (y :: r) = cv y ++ cvs r := by simp [cvs]
    rw [e]
    cases i with
    | zero =>
      simp at h; subst h
      rw [Nat.zero_mul, Nat.zero_add, List.getElem?_append_left (by simp [cv]; omega)]
    | succ i =>
      simp at h
      rw [List.getElem?_append_right (by simp [cv]; omega), show (i + 1) * 5 + j - (cv y).length = i * 5 + j from by simp [cv]; omega]
      exact ih i j x h hj
/-- The slice value v owns the items l, in a row of the call's own from block B on. -/
def OwnI (w : World) (B : Nat) (v : Value) (l : List It) : Prop := w.ownsRow B 36 5 v l.length (cvs l)
theorem infoI : (Try.prog.info? 36).map (fun i => (i.zero, i.size, i.bytes)) = some (some (.agg #[.int .i64 0, .int .i64 0, .int .u64 0, .int .u64 0, .int .i64 0]), 5, 40) := by kernel_rfl
theorem ownI_nil (w : World) (B : Nat) : OwnI w B (.slice none 0 0) [] := World.ownsRow_nil _ _ _ _
theorem ownI_grown {w w' : World} {B : Nat} {v : Value} {l : List It} {row : Option Nat} (h : OwnI w B v l) (hg : w.grownBy w' row) (hne : ∀ k, row = some k → k < B) : OwnI w' B v l := by
  refine World.ownsRow.kept h hg ?_
  cases hv : v.ownBlock with
  | none => exact .inl rfl
  | some k =>
    refine .inr fun e => ?_
    have := (World.ownsRow.lt h k hv).1
    have := hne k e.symm
    omega
theorem ownI_keep {w w' : World} {B : Nat} {v : Value} {l : List It} (h : OwnI w B v l) (hb : Below w.heap.size w w') : OwnI w' B v l := ownI_grown h (gb_below hb none) (by simp)
theorem ownI_base {w : World} {B C : Nat} {v : Value} {l : List It} (h : OwnI w B v l) (hc : C ≤ B) : OwnI w C v l := by
  obtain ⟨hl, ⟨rfl, hn⟩ | ⟨g, cap, cur, rfl, hg, hh, hnc, hcm, hcs, hx⟩⟩ := h
  · exact ⟨hl, .inl ⟨rfl, hn⟩⟩
  · exact ⟨hl, .inr ⟨g, cap, cur, rfl, Nat.le_trans hc hg, hh, hnc, hcm, hcs, hx⟩⟩
theorem ownI_is {w : World} {B : Nat} {v : Value} {l : List It} (h : OwnI w B v l) (hw : ∀ x ∈ l, x.wf) : ∃ ao cap, v = .slice ao l.length cap ∧ cap ≤ 9223372036854775807 ∧ Is w ao l.length cap l ∧ ∀ a, ao = some a → B ≤ a.block := by
  have h0 := h
  obtain ⟨hl, ⟨rfl, hn⟩ | ⟨g, cap, cur, rfl, hg, hh, hnc, hcm, hcs, hx⟩⟩ := h
  · rw [hn]
    have : l = [] := List.eq_nil_of_length_eq_zero hn
    subst this
    exact ⟨none, 0, rfl, by omega, is_nil w, fun a h => by cases h⟩
  · refine ⟨_, cap, rfl, by unfold maxLen at hcm; omega, ⟨rfl, ⟨hnc, fun h => by cases h⟩, hw, fun _ => ⟨g, 0, rfl, fun i x hi => ?_⟩⟩, fun a h => by cases h; exact hg⟩
    have hc : ∀ j, j < 5 → ∀ u, (cv x)[j]? = some u → w.cell? ⟨g, 0 + (i * 5) + j, none⟩ = some u := fun j hj u hu => by
      have := World.ownsRow.cells h0 (g := g) rfl (i * 5 + j) u (by rw [cvs_get l i j x hi hj]; exact hu)
      rw [add_plain] at this
      rw [Nat.add_assoc]
      exact this
    exact ⟨hc 0 (by omega) _ rfl, hc 1 (by omega) _ rfl, hc 2 (by omega) _ rfl, hc 3 (by omega) _ rfl, hc 4 (by omega) _ rfl⟩
def lenOf : Value → Nat | .slice _ l _ => l | _ => 0
theorem ownI_len {w : World} {B : Nat} {v : Value} {l : List It} (h : OwnI w B v l) : lenOf v = l.length := by
  obtain ⟨hl, ⟨rfl, hn⟩ | ⟨g, cap, cur, rfl, hg, hh, hnc, hcm, hcs, hx⟩⟩ := h
  · rw [hn]; rfl
  · rfl
/-- An append of any items to a row of the call's own. -/
theorem wpList_append_items {w : World} {ops : Array Oper} {rest : List Oper} {o : Oper} {a : Act} {Q : Exit → Act → World → Prop} (hgd : o.guard = none) (s x : Operand)
    (ho : o.op = .call { callee := .builtin .append, args := #[s, x], argTypes := #[25, 25] })
    (base : Nat) (v : Value) (l : List It) (hs : a.eval s = v) (hown : OwnI w base v l) (ao : Option Addr) (len cap : Nat) (m : List It) (hx : a.eval x = .slice ao len cap) (hb : Is w ao len cap m)
    (hlen : l.length + len ≤ 3518437208883) (hbase : base ≤ w.heap.size)
    (h : ∀ v' w', OwnI w' base v' (l ++ m) → w.grownBy w' v.ownBlock → (∀ k, v.ownBlock = some k → base ≤ k) → wpList Try.prog ops Q rest (a.put o.dst v') w') : wpList Try.prog ops Q (o :: rest) a w := by
  obtain ⟨i0, hi, hz0, hz1, hz2⟩ := info_parts infoI
  have hbk : ∀ k, v.ownBlock = some k → base ≤ k := fun k hk => (World.ownsRow.lt hown k hk).1
  cases ao with
  | none =>
    obtain ⟨rfl, rfl⟩ := hb.2.1.2 rfl
    have hy : m = [] := List.eq_nil_of_length_eq_zero hb.1
    subst hy
    exact wpList_append_own_none hgd s x 25 ho base 36 i0 5 Try.underlying25 hi v l.length (cvs l) hs hown hx (h v w (by rwa [List.append_nil]) (gb_below (Below.refl _ _) _) hbk)
  | some ad =>
    refine wpList_append_own _ hgd s x 25 ho base 36 i0 _ 5 40 Try.underlying25 hi hz0 hz1 hz2 rfl (by decide) v l.length (cvs l) hs hown ad len cap (cvs m) hx (by rw [cvs_len, hb.1]) ?_ ?_
      (by unfold maxLen; omega) (by omega) hbase ?_
    · intro j u hu
      have hj : j < m.length * 5 := by rw [← cvs_len]; exact (List.getElem?_eq_some_iff.1 hu).1
      obtain ⟨b, off, had, hc⟩ := hb.2.2.2 (by have := hb.1; omega)
      cases had
      obtain ⟨y, hy⟩ : ∃ y, m[j / 5]? = some y := ⟨_, List.getElem?_eq_getElem (by omega)⟩
      have e : j = j / 5 * 5 + j % 5 := by omega
      rw [e, cvs_get m (j / 5) (j % 5) y hy (by omega)] at hu
      have g := hc (j / 5) y hy
      unfold Vt Vi at g
      rw [add_plain]
      have hm : j % 5 = 0 ∨ j % 5 = 1 ∨ j % 5 = 2 ∨ j % 5 = 3 ∨ j % 5 = 4 := by omega
      rw [show off + j = off + j / 5 * 5 + j % 5 from by omega]
      rcases hm with hm | hm | hm | hm | hm <;> rw [hm] at hu ⊢ <;> simp [cv] at hu <;> subst hu
      · exact g.1
      · exact g.2.1
      · exact g.2.2.1
      · exact g.2.2.2.1
      · exact g.2.2.2.2
    · intro u hu
      obtain ⟨y, _, hy⟩ := List.mem_flatMap.1 hu
      simp only [cv, List.mem_cons, List.not_mem_nil, or_false] at hy
      rcases hy with rfl | rfl | rfl | rfl | rfl <;> rfl
    intro v' w' h1 h2 _
    refine h v' w' ?_ h2 hbk
    unfold OwnI
    rw [List.length_append, hb.1, show cvs (l ++ m) = cvs l ++ cvs m from by simp [cvs]]
    exact h1
/-- An append of any items to a row of the call's own, at a step. -/
theorem step_append_items {w : World} {ops : Array Oper} {o : Oper} {a : Act} {K : Act → World → Prop} {Q : Exit → Act → World → Prop} {E : Prop} (hgd : o.guard = none) (s x : Operand)
    (ho : o.op = .call { callee := .builtin .append, args := #[s, x], argTypes := #[25, 25] })
    (base : Nat) (v : Value) (l : List It) (hs : a.eval s = v) (hown : OwnI w base v l) (ao : Option Addr) (len cap : Nat) (m : List It) (hx : a.eval x = .slice ao len cap) (hb : Is w ao len cap m)
    (hlen : l.length + len ≤ 3518437208883) (hbase : base ≤ w.heap.size)
    (h : ∀ v' w', OwnI w' base v' (l ++ m) → w.grownBy w' v.ownBlock → (∀ k, v.ownBlock = some k → base ≤ k) → K (a.put o.dst v') w') :
    if Region.wanted o (yielded ops a.tmps) = true then Oper.wp Try.prog o a w K Q else E := by
  have hw : Region.wanted o (yielded ops a.tmps) = true := by simp [Region.wanted, hgd]
  rw [if_pos hw]
  have hbk : ∀ k, v.ownBlock = some k → base ≤ k := fun k hk => (World.ownsRow.lt hown k hk).1
  obtain ⟨i0, hi, hz0, hz1, hz2⟩ := info_parts infoI
  cases ao with
  | none =>
    obtain ⟨rfl, rfl⟩ := hb.2.1.2 rfl
    have hy : m = [] := List.eq_nil_of_length_eq_zero hb.1
    subst hy
    have hr := run_append_owned_none (P := Try.prog) (w := w) base 25 o.type 36 i0 5 Try.underlying25 hi v l.length (cvs l) hown
    unfold Oper.wp
    simp [execOp, ho, resolve, invoke, builtin, hs, hx, hr, Result.andThen]
    exact h v w (by rwa [List.append_nil]) (gb_below (Below.refl _ _) _) hbk
  | some ad =>
    refine wp_append_own _ s x 25 ho base 36 i0 _ 5 40 Try.underlying25 hi hz0 hz1 hz2 rfl (by decide) v l.length (cvs l) hs hown ad len cap (cvs m) hx (by rw [cvs_len, hb.1]) ?_ ?_
      (by unfold maxLen; omega) (by omega) hbase ?_
    · intro j u hu
      have hj : j < m.length * 5 := by rw [← cvs_len]; exact (List.getElem?_eq_some_iff.1 hu).1
      obtain ⟨b, off, had, hc⟩ := hb.2.2.2 (by have := hb.1; omega)
      cases had
      obtain ⟨y, hy⟩ : ∃ y, m[j / 5]? = some y := ⟨_, List.getElem?_eq_getElem (by omega)⟩
      have e : j = j / 5 * 5 + j % 5 := by omega
      rw [e, cvs_get m (j / 5) (j % 5) y hy (by omega)] at hu
      have g := hc (j / 5) y hy
      unfold Vt Vi at g
      rw [add_plain]
      have hm : j % 5 = 0 ∨ j % 5 = 1 ∨ j % 5 = 2 ∨ j % 5 = 3 ∨ j % 5 = 4 := by omega
      rw [show off + j = off + j / 5 * 5 + j % 5 from by omega]
      rcases hm with hm | hm | hm | hm | hm <;> rw [hm] at hu ⊢ <;> simp [cv] at hu <;> subst hu
      · exact g.1
      · exact g.2.1
      · exact g.2.2.1
      · exact g.2.2.2.1
      · exact g.2.2.2.2
    · intro u hu
      obtain ⟨y, _, hy⟩ := List.mem_flatMap.1 hu
      simp only [cv, List.mem_cons, List.not_mem_nil, or_false] at hy
      rcases hy with rfl | rfl | rfl | rfl | rfl <;> rfl
    intro v' w' h1 h2 _
    refine h v' w' ?_ h2 hbk
    unfold OwnI
    rw [List.length_append, hb.1, show cvs (l ++ m) = cvs l ++ cvs m from by simp [cvs]]
    exact h1
theorem hpS (W : World) (o : Obj) (k : Nat) (hk : k = W.heap.size) : (W.alloc o).heap[k]? = some o := by
  subst hk
  show (W.heap.push o)[W.heap.size]? = _
  simp
theorem hpO {W : World} {k : Nat} {x : Obj} (o : Obj) (h : W.heap[k]? = some x) : (W.alloc o).heap[k]? = some x := by
  have := (Array.getElem?_eq_some_iff.1 h).1
  rw [Below.heap_alloc W o k this]; exact h
theorem hpD {W : World} {k : Nat} {x : Obj} (h : W.heap[k]? = some x) : W.drew.heap[k]? = some x := h
theorem hpG {W W' : World} {row : Option Nat} {k : Nat} {x : Obj} (hg : W.grownBy W' row) (h : W.heap[k]? = some x) (hne : some k ≠ row) : W'.heap[k]? = some x := by
  rw [hg.block k (Array.getElem?_eq_some_iff.1 h).1 hne]; exact h
theorem ownI_empty {w : World} {B g : Nat} (h : w.heap[g]? = some (.cells #[] 36)) (hg : B ≤ g) : OwnI w B (.slice (some ⟨g, 0, none⟩) 0 0) [] :=
  ⟨rfl, .inr ⟨g, 0, #[], rfl, hg, h, Nat.le_refl _, by unfold maxLen; omega, rfl, rfl⟩⟩
theorem is_block {w : World} {p : Nat} {S K T V X : Int} (hw : It.wf ⟨S, K, T, V, X⟩) (h : w.heap[p]? = some (.cells #[.int .i64 S, .int .i64 K, .int .u64 T, .int .u64 V, .int .i64 X] 36)) : Is w (some ⟨p, 0, none⟩) 1 1 [⟨S, K, T, V, X⟩] := by
  refine ⟨rfl, ⟨Nat.le_refl _, fun h => by cases h⟩, fun x hx => by rw [List.mem_singleton.1 hx]; exact hw, fun _ => ⟨p, 0, rfl, fun i x hi => ?_⟩⟩
  cases i with
  | zero =>
    simp at hi
    subst hi
    unfold Vt Vi
    simp [World.cell?, h]
  | succ i => simp at hi

end Go.Proofs.Ytkkcchklefcljaa.Clep
