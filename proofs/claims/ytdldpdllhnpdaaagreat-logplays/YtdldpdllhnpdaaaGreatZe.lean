/- Rows of items: what a slice of items leads to; rows of items that a call made, one item more. Conditions: at most 2^40 items. -/
import Derived.Test.YtdldpdllhnpdaaaGreatZd
import Derived.Maps.AppendAt
import Derived.Laws.AppendOwnNone
import Derived.Deep.RegionHeldLaw
import Derived.BigRegion
import Derived.Laws.StructEq
import Derived.Deep.Heap
import Derived.Laws.NewBlocks
import Derived.Tactics
import Derived.Tactics2
namespace Go.Proofs.YtdldpdllhnpdaaaGreat.Clep
open Go.RowKit
set_option linter.unusedVariables false
set_option maxRecDepth 10000

theorem gb_below {w w' : World} (h : Below w.heap.size w w') (row : Option Nat) : w.grownBy w' row := ⟨h.os, h.tape, h.output, h.size, fun i hi _ => h.block i hi⟩
theorem gb_set (w : World) (p : Addr) (u : Value) : w.grownBy (w.setCell p u) (some p.block) :=
  ⟨rfl, rfl, rfl, by simp [World.setCell], fun i hi hne => Below.heap_setCell _ _ _ _ (fun e => hne (by rw [e]))⟩
theorem gb_cell {w w' : World} {row : Option Nat} (hg : w.grownBy w' row) (a : Addr) {v : Value} (h : w.cell? a = some v) (hne : some a.block ≠ row) : w'.cell? a = some v := by
  rw [World.cell?_of_block (w := w) (hg.block a.block (World.block_lt_of_cell? w _ h) hne)]; exact h
theorem Vi.grown {w w' : World} {R o : Nat} {S K T V X : Int} {row : Option Nat} (h : Vi w R o S K T V X) (hg : w.grownBy w' row) (hne : some R ≠ row) : Vi w' R o S K T V X := by
  obtain ⟨h0, h1, h2, h3, h4⟩ := h
  exact ⟨gb_cell hg _ h0 hne, gb_cell hg _ h1 hne, gb_cell hg _ h2 hne, gb_cell hg _ h3 hne, gb_cell hg _ h4 hne⟩
/-- An item. -/
structure It where
  S : Int
  K : Int
  T : Int
  V : Int
  X : Int
def It.ok (x : It) : Bool := okI x.S x.K x.T x.V x.X
def It.wf (x : It) : Prop := (-9223372036854775808 ≤ x.S ∧ x.S ≤ 9223372036854775807) ∧ (-9223372036854775808 ≤ x.K ∧ x.K ≤ 9223372036854775807) ∧ (0 ≤ x.T ∧ x.T ≤ 18446744073709551615) ∧ (0 ≤ x.V ∧ x.V ≤ 18446744073709551615) ∧ (-9223372036854775808 ≤ x.X ∧ x.X ≤ 9223372036854775807)
def Vt (w : World) (R o : Nat) (x : It) : Prop := Vi w R o x.S x.K x.T x.V x.X
/-- The slice value (ao, len, cap) leads to the items l in w. -/
def Is (w : World) (ao : Option Addr) (len cap : Nat) (l : List It) : Prop :=
  l.length = len ∧ (len ≤ cap ∧ (ao = none → len = 0 ∧ cap = 0)) ∧ (∀ x ∈ l, x.wf) ∧
    (0 < len → ∃ b off, ao = some ⟨b, off, none⟩ ∧ ∀ i x, l[i]? = some x → Vt w b (off + i * 5) x)
theorem is_nil (w : World) : Is w none 0 0 [] := ⟨rfl, ⟨Nat.le_refl _, fun _ => ⟨rfl, rfl⟩⟩, by simp, fun h => by omega⟩
theorem Is.below {w w' : World} {B : Nat} {ao : Option Addr} {len cap : Nat} {l : List It} (h : Is w ao len cap l) (hb : Below B w w') (hB : w.heap.size ≤ B) : Is w' ao len cap l := by
  refine ⟨h.1, h.2.1, h.2.2.1, fun h0 => ?_⟩
  obtain ⟨b, off, ho, hc⟩ := h.2.2.2 h0
  refine ⟨b, off, ho, fun i x hi => ?_⟩
  have := hc i x hi
  exact this.below hb (Nat.lt_of_lt_of_le this.lt hB)
theorem Is.grown {w w' : World} {row : Option Nat} {b off len cap : Nat} {l : List It} (h : Is w (some ⟨b, off, none⟩) len cap l) (hg : w.grownBy w' row) (hne : some b ≠ row) : Is w' (some ⟨b, off, none⟩) len cap l := by
  refine ⟨h.1, h.2.1, h.2.2.1, fun h0 => ?_⟩
  obtain ⟨b', off', ho, hc⟩ := h.2.2.2 h0
  cases ho
  exact ⟨b, off, rfl, fun i x hi => (hc i x hi).grown hg hne⟩
theorem is_one (w : World) (S K T V X : Int) (hw : It.wf ⟨S, K, T, V, X⟩) : Is (w.alloc (Obj.cells #[Value.int IntKind.i64 S, Value.int IntKind.i64 K, Value.int IntKind.u64 T, Value.int IntKind.u64 V, Value.int IntKind.i64 X] 48)) (some ⟨w.heap.size, 0, none⟩) 1 1 [⟨S, K, T, V, X⟩] := by
  refine ⟨rfl, ⟨Nat.le_refl _, fun h => by cases h⟩, fun x hx => by rw [List.mem_singleton.1 hx]; exact hw, fun _ => ⟨w.heap.size, 0, rfl, fun i x hi => ?_⟩⟩
  cases i with
  | zero =>
    simp at hi
    subst hi
    exact vi_new w S K T V X
  | succ i => simp at hi
/-- A variable that holds an item, and may be written. -/
def Vx (w : World) (R : Nat) (S K T V X : Int) : Prop := Vi w R 0 S K T V X ∧ Vf w R 0
theorem Vx.lt {w : World} {R : Nat} {S K T V X : Int} (h : Vx w R S K T V X) : R < w.heap.size := h.1.lt
theorem Vx.grown {w w' : World} {R : Nat} {S K T V X : Int} {row : Option Nat} (h : Vx w R S K T V X) (hg : w.grownBy w' row) (hne : some R ≠ row) : Vx w' R S K T V X := by
  have hb := hg.block R h.lt hne
  refine ⟨h.1.grown hg hne, ?_⟩
  obtain ⟨h0, h1, h2, h3, h4⟩ := h.2
  exact ⟨(World.frozen?_of_block (a := ⟨R, 0, none⟩) (w := w) hb).trans h0, (World.frozen?_of_block (a := ⟨R, 0 + 1, none⟩) (w := w) hb).trans h1, (World.frozen?_of_block (a := ⟨R, 0 + 2, none⟩) (w := w) hb).trans h2, (World.frozen?_of_block (a := ⟨R, 0 + 3, none⟩) (w := w) hb).trans h3, (World.frozen?_of_block (a := ⟨R, 0 + 4, none⟩) (w := w) hb).trans h4⟩
theorem vx_new (w : World) (S K T V X : Int) : Vx (w.alloc (Obj.cells #[Value.int IntKind.i64 S, Value.int IntKind.i64 K, Value.int IntKind.u64 T, Value.int IntKind.u64 V, Value.int IntKind.i64 X] 48)) w.heap.size S K T V X := ⟨vi_new w S K T V X, vf_new w S K T V X⟩
def cv (x : It) : List Value := [.int .i64 x.S, .int .i64 x.K, .int .u64 x.T, .int .u64 x.V, .int .i64 x.X]
def cvs (l : List It) : List Value := l.flatMap cv
theorem cvs_len (l : List It) : (cvs l).length = l.length * 5 := by
  induction l with
  | nil => rfl
  | cons x r ih => simp [cvs, cv] at ih ⊢; omega
theorem cvs_get (l : List It) : ∀ (i j : Nat) (x : It), l[i]? = some x → j < 5 → (cvs l)[i * 5 + j]? = (cv x)[j]? := by
  induction l with
  | nil => intro i j x h; simp at h
  | cons y r ih =>
    intro i j x h hj
    have e : cvs (y :: r) = cv y ++ cvs r := by simp [cvs]
    rw [e]
    cases i with
    | zero =>
      simp at h; subst h
      rw [Nat.zero_mul, Nat.zero_add, List.getElem?_append_left (by simp [cv]; omega)]
    | succ i =>
      simp at h
      rw [List.getElem?_append_right (by simp [cv]; omega), show (i + 1) * 5 + j - (cv y).length = i * 5 + j from by simp [cv]; omega]
      exact ih i j x h hj
/-- The slice value v owns the items l, in a row of the call's own from block B on. -/
def OwnI (w : World) (B : Nat) (v : Value) (l : List It) : Prop := w.ownsRow B 48 5 v l.length (cvs l)
theorem infoI : (Tryz.prog.info? 48).map (fun i => (i.zero, i.size, i.bytes)) = some (some (.agg #[.int .i64 0, .int .i64 0, .int .u64 0, .int .u64 0, .int .i64 0]), 5, 40) := by kernel_rfl
theorem ownI_nil (w : World) (B : Nat) : OwnI w B (.slice none 0 0) [] := World.ownsRow_nil _ _ _ _
theorem ownI_grown {w w' : World} {B : Nat} {v : Value} {l : List It} {row : Option Nat} (h : OwnI w B v l) (hg : w.grownBy w' row) (hne : ∀ k, row = some k → k < B) : OwnI w' B v l := by
  refine World.ownsRow.kept h hg ?_
  cases hv : v.ownBlock with
  | none => exact .inl rfl
  | some k =>
    refine .inr fun e => ?_
    have := (World.ownsRow.lt h k hv).1
    have := hne k e.symm
    omega
theorem ownI_keep {w w' : World} {B : Nat} {v : Value} {l : List It} (h : OwnI w B v l) (hb : Below w.heap.size w w') : OwnI w' B v l := ownI_grown h (gb_below hb none) (by simp)
theorem ownI_base {w : World} {B C : Nat} {v : Value} {l : List It} (h : OwnI w B v l) (hc : C ≤ B) : OwnI w C v l := by
  obtain ⟨hl, ⟨rfl, hn⟩ | ⟨g, cap, cur, rfl, hg, hh, hnc, hcm, hcs, hx⟩⟩ := h
  · exact ⟨hl, .inl ⟨rfl, hn⟩⟩
  · exact ⟨hl, .inr ⟨g, cap, cur, rfl, Nat.le_trans hc hg, hh, hnc, hcm, hcs, hx⟩⟩
theorem ownI_is {w : World} {B : Nat} {v : Value} {l : List It} (h : OwnI w B v l) (hw : ∀ x ∈ l, x.wf) : ∃ ao cap, v = .slice ao l.length cap ∧ cap ≤ 9223372036854775807 ∧ Is w ao l.length cap l ∧ ∀ a, ao = some a → B ≤ a.block := by
  have h0 := h
  obtain ⟨hl, ⟨rfl, hn⟩ | ⟨g, cap, cur, rfl, hg, hh, hnc, hcm, hcs, hx⟩⟩ := h
  · rw [hn]
    have : l = [] := List.eq_nil_of_length_eq_zero hn
    subst this
    exact ⟨none, 0, rfl, by omega, is_nil w, fun a h => by cases h⟩
  · refine ⟨_, cap, rfl, by unfold maxLen at hcm; omega, ⟨rfl, ⟨hnc, fun h => by cases h⟩, hw, fun _ => ⟨g, 0, rfl, fun i x hi => ?_⟩⟩, fun a h => by cases h; exact hg⟩
    have hc : ∀ j, j < 5 → ∀ u, (cv x)[j]? = some u → w.cell? ⟨g, 0 + (i * 5) + j, none⟩ = some u := fun j hj u hu => by
      have := World.ownsRow.cells h0 (g := g) rfl (i * 5 + j) u (by rw [cvs_get l i j x hi hj]; exact hu)
      rw [add_plain] at this
      rw [Nat.add_assoc]
      exact this
    exact ⟨hc 0 (by omega) _ rfl, hc 1 (by omega) _ rfl, hc 2 (by omega) _ rfl, hc 3 (by omega) _ rfl, hc 4 (by omega) _ rfl⟩
def lenOf : Value → Nat | .slice _ l _ => l | _ => 0
theorem ownI_len {w : World} {B : Nat} {v : Value} {l : List It} (h : OwnI w B v l) : lenOf v = l.length := by
  obtain ⟨hl, ⟨rfl, hn⟩ | ⟨g, cap, cur, rfl, hg, hh, hnc, hcm, hcs, hx⟩⟩ := h
  · rw [hn]; rfl
  · rfl
/-- An append of any items to a row of the call's own. -/
theorem wpList_append_items {w : World} {ops : Array Oper} {rest : List Oper} {o : Oper} {a : Act} {Q : Exit → Act → World → Prop} (hgd : o.guard = none) (s x : Operand)
    (ho : o.op = .call { callee := .builtin .append, args := #[s, x], argTypes := #[34, 34] })
    (base : Nat) (v : Value) (l : List It) (hs : a.eval s = v) (hown : OwnI w base v l) (ao : Option Addr) (len cap : Nat) (m : List It) (hx : a.eval x = .slice ao len cap) (hb : Is w ao len cap m)
    (hlen : l.length + len ≤ 3518437208883) (hbase : base ≤ w.heap.size)
    (h : ∀ v' w', OwnI w' base v' (l ++ m) → w.grownBy w' v.ownBlock → (∀ k, v.ownBlock = some k → base ≤ k) → wpList Tryz.prog ops Q rest (a.put o.dst v') w') : wpList Tryz.prog ops Q (o :: rest) a w := by
  obtain ⟨i0, hi, hz0, hz1, hz2⟩ := info_parts infoI
  have hbk : ∀ k, v.ownBlock = some k → base ≤ k := fun k hk => (World.ownsRow.lt hown k hk).1
  cases ao with
  | none =>
    obtain ⟨rfl, rfl⟩ := hb.2.1.2 rfl
    have hy : m = [] := List.eq_nil_of_length_eq_zero hb.1
    subst hy
    exact wpList_append_own_none hgd s x 34 ho base 48 i0 5 Tryz.underlying34 hi v l.length (cvs l) hs hown hx (h v w (by rwa [List.append_nil]) (gb_below (Below.refl _ _) _) hbk)
  | some ad =>
    refine wpList_append_own _ hgd s x 34 ho base 48 i0 _ 5 40 Tryz.underlying34 hi hz0 hz1 hz2 rfl (by decide) v l.length (cvs l) hs hown ad len cap (cvs m) hx (by rw [cvs_len, hb.1]) ?_ ?_
      (by unfold maxLen; omega) (by omega) hbase ?_
    · intro j u hu
      have hj : j < m.length * 5 := by rw [← cvs_len]; exact (List.getElem?_eq_some_iff.1 hu).1
      obtain ⟨b, off, had, hc⟩ := hb.2.2.2 (by have := hb.1; omega)
      cases had
      obtain ⟨y, hy⟩ : ∃ y, m[j / 5]? = some y := ⟨_, List.getElem?_eq_getElem (by omega)⟩
      have e : j = j / 5 * 5 + j % 5 := by omega
      rw [e, cvs_get m (j / 5) (j % 5) y hy (by omega)] at hu
      have g := hc (j / 5) y hy
      unfold Vt Vi at g
      rw [add_plain]
      have hm : j % 5 = 0 ∨ j % 5 = 1 ∨ j % 5 = 2 ∨ j % 5 = 3 ∨ j % 5 = 4 := by omega
      rw [show off + j = off + j / 5 * 5 + j % 5 from by omega]
      rcases hm with hm | hm | hm | hm | hm <;> rw [hm] at hu ⊢ <;> simp [cv] at hu <;> subst hu
      · exact g.1
      · exact g.2.1
      · exact g.2.2.1
      · exact g.2.2.2.1
      · exact g.2.2.2.2
    · intro u hu
      obtain ⟨y, _, hy⟩ := List.mem_flatMap.1 hu
      simp only [cv, List.mem_cons, List.not_mem_nil, or_false] at hy
      rcases hy with rfl | rfl | rfl | rfl | rfl <;> rfl
    intro v' w' h1 h2 _
    refine h v' w' ?_ h2 hbk
    unfold OwnI
    rw [List.length_append, hb.1, show cvs (l ++ m) = cvs l ++ cvs m from by simp [cvs]]
    exact h1
/-- An append of any items to a row of the call's own, at a step. -/
theorem step_append_items {w : World} {ops : Array Oper} {o : Oper} {a : Act} {K : Act → World → Prop} {Q : Exit → Act → World → Prop} {E : Prop} (hgd : o.guard = none) (s x : Operand)
    (ho : o.op = .call { callee := .builtin .append, args := #[s, x], argTypes := #[34, 34] })
    (base : Nat) (v : Value) (l : List It) (hs : a.eval s = v) (hown : OwnI w base v l) (ao : Option Addr) (len cap : Nat) (m : List It) (hx : a.eval x = .slice ao len cap) (hb : Is w ao len cap m)
    (hlen : l.length + len ≤ 3518437208883) (hbase : base ≤ w.heap.size)
    (h : ∀ v' w', OwnI w' base v' (l ++ m) → w.grownBy w' v.ownBlock → (∀ k, v.ownBlock = some k → base ≤ k) → K (a.put o.dst v') w') :
    if Region.wanted o (yielded ops a.tmps) = true then Oper.wp Tryz.prog o a w K Q else E := by
  have hw : Region.wanted o (yielded ops a.tmps) = true := by simp [Region.wanted, hgd]
  rw [if_pos hw]
  have hbk : ∀ k, v.ownBlock = some k → base ≤ k := fun k hk => (World.ownsRow.lt hown k hk).1
  obtain ⟨i0, hi, hz0, hz1, hz2⟩ := info_parts infoI
  cases ao with
  | none =>
    obtain ⟨rfl, rfl⟩ := hb.2.1.2 rfl
    have hy : m = [] := List.eq_nil_of_length_eq_zero hb.1
    subst hy
    have hr := run_append_owned_none (P := Tryz.prog) (w := w) base 34 o.type 48 i0 5 Tryz.underlying34 hi v l.length (cvs l) hown
    unfold Oper.wp
    simp [execOp, ho, resolve, invoke, builtin, hs, hx, hr, Result.andThen]
    exact h v w (by rwa [List.append_nil]) (gb_below (Below.refl _ _) _) hbk
  | some ad =>
    refine wp_append_own _ s x 34 ho base 48 i0 _ 5 40 Tryz.underlying34 hi hz0 hz1 hz2 rfl (by decide) v l.length (cvs l) hs hown ad len cap (cvs m) hx (by rw [cvs_len, hb.1]) ?_ ?_
      (by unfold maxLen; omega) (by omega) hbase ?_
    · intro j u hu
      have hj : j < m.length * 5 := by rw [← cvs_len]; exact (List.getElem?_eq_some_iff.1 hu).1
      obtain ⟨b, off, had, hc⟩ := hb.2.2.2 (by have := hb.1; omega)
      cases had
      obtain ⟨y, hy⟩ : ∃ y, m[j / 5]? = some y := ⟨_, List.getElem?_eq_getElem (by omega)⟩
      have e : j = j / 5 * 5 + j % 5 := by omega
      rw [e, cvs_get m (j / 5) (j % 5) y hy (by omega)] at hu
      have g := hc (j / 5) y hy
      unfold Vt Vi at g
      rw [add_plain]
      have hm : j % 5 = 0 ∨ j % 5 = 1 ∨ j % 5 = 2 ∨ j % 5 = 3 ∨ j % 5 = 4 := by omega
      rw [show off + j = off + j / 5 * 5 + j % 5 from by omega]
      rcases hm with hm | hm | hm | hm | hm <;> rw [hm] at hu ⊢ <;> simp [cv] at hu <;> subst hu
      · exact g.1
      · exact g.2.1
      · exact g.2.2.1
      · exact g.2.2.2.1
      · exact g.2.2.2.2
    · intro u hu
      obtain ⟨y, _, hy⟩ := List.mem_flatMap.1 hu
      simp only [cv, List.mem_cons, List.not_mem_nil, or_false] at hy
      rcases hy with rfl | rfl | rfl | rfl | rfl <;> rfl
    intro v' w' h1 h2 _
    refine h v' w' ?_ h2 hbk
    unfold OwnI
    rw [List.length_append, hb.1, show cvs (l ++ m) = cvs l ++ cvs m from by simp [cvs]]
    exact h1
theorem hpS (W : World) (o : Obj) (k : Nat) (hk : k = W.heap.size) : (W.alloc o).heap[k]? = some o := by
  subst hk
  show (W.heap.push o)[W.heap.size]? = _
  simp
theorem hpO {W : World} {k : Nat} {x : Obj} (o : Obj) (h : W.heap[k]? = some x) : (W.alloc o).heap[k]? = some x := by
  have := (Array.getElem?_eq_some_iff.1 h).1
  rw [Below.heap_alloc W o k this]; exact h
theorem hpD {W : World} {k : Nat} {x : Obj} (h : W.heap[k]? = some x) : W.drew.heap[k]? = some x := h
theorem hpG {W W' : World} {row : Option Nat} {k : Nat} {x : Obj} (hg : W.grownBy W' row) (h : W.heap[k]? = some x) (hne : some k ≠ row) : W'.heap[k]? = some x := by
  rw [hg.block k (Array.getElem?_eq_some_iff.1 h).1 hne]; exact h
theorem ownI_empty {w : World} {B g : Nat} (h : w.heap[g]? = some (.cells #[] 48)) (hg : B ≤ g) : OwnI w B (.slice (some ⟨g, 0, none⟩) 0 0) [] :=
  ⟨rfl, .inr ⟨g, 0, #[], rfl, hg, h, Nat.le_refl _, by unfold maxLen; omega, rfl, rfl⟩⟩
theorem is_block {w : World} {p : Nat} {S K T V X : Int} (hw : It.wf ⟨S, K, T, V, X⟩) (h : w.heap[p]? = some (.cells #[.int .i64 S, .int .i64 K, .int .u64 T, .int .u64 V, .int .i64 X] 48)) : Is w (some ⟨p, 0, none⟩) 1 1 [⟨S, K, T, V, X⟩] := by
  refine ⟨rfl, ⟨Nat.le_refl _, fun h => by cases h⟩, fun x hx => by rw [List.mem_singleton.1 hx]; exact hw, fun _ => ⟨p, 0, rfl, fun i x hi => ?_⟩⟩
  cases i with
  | zero =>
    simp at hi
    subst hi
    unfold Vt Vi
    simp [World.cell?, h]
  | succ i => simp at hi

end Go.Proofs.YtdldpdllhnpdaaaGreat.Clep

/- A variable that holds an item, written field by field. No conditions. -/
namespace Go.Proofs.YtdldpdllhnpdaaaGreat.Clep
open Go.RowKit
set_option linter.unusedVariables false
set_option maxRecDepth 10000

theorem Vx.set0 {w : World} {R : Nat} {S K T V X : Int} (h : Vx w R S K T V X) (n : Int) : Vx (w.setCell ⟨R, 0, none⟩ (.int .i64 n)) R n K T V X := by
  obtain ⟨⟨h0, h1, h2, h3, h4⟩, f0, f1, f2, f3, f4⟩ := h
  simp only [Nat.zero_add] at h1 h2 h3 h4 f1 f2 f3 f4
  refine ⟨⟨?_, ?_, ?_, ?_, ?_⟩, by simpa using f0, by simpa using f1, by simpa using f2, by simpa using f3, by simpa using f4⟩
  · rw [World.cell?_setCell_same (h := h0)]
  · rw [World.cell?_setCell_other (h := by simp)]; exact h1
  · rw [World.cell?_setCell_other (h := by simp)]; exact h2
  · rw [World.cell?_setCell_other (h := by simp)]; exact h3
  · rw [World.cell?_setCell_other (h := by simp)]; exact h4
theorem Vx.set1 {w : World} {R : Nat} {S K T V X : Int} (h : Vx w R S K T V X) (n : Int) : Vx (w.setCell ⟨R, 1, none⟩ (.int .i64 n)) R S n T V X := by
  obtain ⟨⟨h0, h1, h2, h3, h4⟩, f0, f1, f2, f3, f4⟩ := h
  simp only [Nat.zero_add] at h1 h2 h3 h4 f1 f2 f3 f4
  refine ⟨⟨?_, ?_, ?_, ?_, ?_⟩, by simpa using f0, by simpa using f1, by simpa using f2, by simpa using f3, by simpa using f4⟩
  · rw [World.cell?_setCell_other (h := by simp)]; exact h0
  · rw [World.cell?_setCell_same (h := h1)]
  · rw [World.cell?_setCell_other (h := by simp)]; exact h2
  · rw [World.cell?_setCell_other (h := by simp)]; exact h3
  · rw [World.cell?_setCell_other (h := by simp)]; exact h4
theorem Vx.set2 {w : World} {R : Nat} {S K T V X : Int} (h : Vx w R S K T V X) (n : Int) : Vx (w.setCell ⟨R, 2, none⟩ (.int .u64 n)) R S K n V X := by
  obtain ⟨⟨h0, h1, h2, h3, h4⟩, f0, f1, f2, f3, f4⟩ := h
  simp only [Nat.zero_add] at h1 h2 h3 h4 f1 f2 f3 f4
  refine ⟨⟨?_, ?_, ?_, ?_, ?_⟩, by simpa using f0, by simpa using f1, by simpa using f2, by simpa using f3, by simpa using f4⟩
  · rw [World.cell?_setCell_other (h := by simp)]; exact h0
  · rw [World.cell?_setCell_other (h := by simp)]; exact h1
  · rw [World.cell?_setCell_same (h := h2)]
  · rw [World.cell?_setCell_other (h := by simp)]; exact h3
  · rw [World.cell?_setCell_other (h := by simp)]; exact h4
theorem Vx.set3 {w : World} {R : Nat} {S K T V X : Int} (h : Vx w R S K T V X) (n : Int) : Vx (w.setCell ⟨R, 3, none⟩ (.int .u64 n)) R S K T n X := by
  obtain ⟨⟨h0, h1, h2, h3, h4⟩, f0, f1, f2, f3, f4⟩ := h
  simp only [Nat.zero_add] at h1 h2 h3 h4 f1 f2 f3 f4
  refine ⟨⟨?_, ?_, ?_, ?_, ?_⟩, by simpa using f0, by simpa using f1, by simpa using f2, by simpa using f3, by simpa using f4⟩
  · rw [World.cell?_setCell_other (h := by simp)]; exact h0
  · rw [World.cell?_setCell_other (h := by simp)]; exact h1
  · rw [World.cell?_setCell_other (h := by simp)]; exact h2
  · rw [World.cell?_setCell_same (h := h3)]
  · rw [World.cell?_setCell_other (h := by simp)]; exact h4
theorem Vx.set4 {w : World} {R : Nat} {S K T V X : Int} (h : Vx w R S K T V X) (n : Int) : Vx (w.setCell ⟨R, 4, none⟩ (.int .i64 n)) R S K T V n := by
  obtain ⟨⟨h0, h1, h2, h3, h4⟩, f0, f1, f2, f3, f4⟩ := h
  simp only [Nat.zero_add] at h1 h2 h3 h4 f1 f2 f3 f4
  refine ⟨⟨?_, ?_, ?_, ?_, ?_⟩, by simpa using f0, by simpa using f1, by simpa using f2, by simpa using f3, by simpa using f4⟩
  · rw [World.cell?_setCell_other (h := by simp)]; exact h0
  · rw [World.cell?_setCell_other (h := by simp)]; exact h1
  · rw [World.cell?_setCell_other (h := by simp)]; exact h2
  · rw [World.cell?_setCell_other (h := by simp)]; exact h3
  · rw [World.cell?_setCell_same (h := h4)]

/-- An item stored whole. -/
def putI (w : World) (R : Nat) (S K T V X : Int) : World := ((((w.setCell ⟨R, 0, none⟩ (.int .i64 S)).setCell ⟨R, 1, none⟩ (.int .i64 K)).setCell ⟨R, 2, none⟩ (.int .u64 T)).setCell ⟨R, 3, none⟩ (.int .u64 V)).setCell ⟨R, 4, none⟩ (.int .i64 X)
theorem Vx.put {w : World} {R : Nat} {S0 K0 T0 V0 X0 : Int} (h : Vx w R S0 K0 T0 V0 X0) (S K T V X : Int) : Vx (putI w R S K T V X) R S K T V X := ((((h.set0 S).set1 K).set2 T).set3 V).set4 X
theorem gb_putI (w : World) (R : Nat) (S K T V X : Int) : w.grownBy (putI w R S K T V X) (some R) :=
  ((((gb_set w ⟨R, 0, none⟩ _).trans (gb_set _ ⟨R, 1, none⟩ _)).trans (gb_set _ ⟨R, 2, none⟩ _)).trans (gb_set _ ⟨R, 3, none⟩ _)).trans (gb_set _ ⟨R, 4, none⟩ _)
theorem Vx.keep {w w' : World} {R : Nat} {S K T V X : Int} (h : Vx w R S K T V X) (hb : Below w.heap.size w w') : Vx w' R S K T V X := h.grown (gb_below hb none) (by simp)

end Go.Proofs.YtdldpdllhnpdaaaGreat.Clep

/- What a state is: which items hold of all that were told; it is one list, whatever the order; the document's own Add, its loop. No conditions. -/
namespace Go.Proofs.YtdldpdllhnpdaaaGreat.Clep
open Go.RowKit
set_option linter.unusedVariables false
set_option maxRecDepth 10000

def It.less (a b : It) : Bool := lessI a.S a.K a.T b.S b.K b.T
def It.same (a b : It) : Bool := sameI a.S a.K a.T b.S b.K b.T
def It.wins (a b : It) : Bool := winsI a.V a.X b.V b.X
def It.hides (a b : It) : Bool := hidesI a.S a.K a.V b.S b.K b.V
theorem less_iff {a b : It} : a.less b = true ↔ (a.S < b.S ∨ a.S = b.S ∧ (a.K < b.K ∨ a.K = b.K ∧ a.T < b.T)) := by simp [It.less, lessI]
theorem same_iff {a b : It} : a.same b = true ↔ (a.S = b.S ∧ a.K = b.K ∧ a.T = b.T) := by simp [It.same, sameI]
theorem wins_iff {a b : It} : a.wins b = true ↔ (b.V < a.V ∨ a.V = b.V ∧ b.X < a.X) := by simp [It.wins, winsI]
theorem hides_iff {a b : It} : a.hides b = true ↔ (a.K = 1 ∧ b.K = 2 ∧ a.S = b.S ∧ b.V ≤ a.V) := by simp [It.hides, hidesI]
theorem ok_iff {a : It} : a.ok = true ↔ (0 ≤ a.S ∧ a.S ≤ 255 ∧ 1 ≤ a.V ∧ a.V ≤ 281474976710656 ∧ ((a.K = 1 ∧ a.T = 0 ∧ a.X = 0) ∨ (a.K = 2 ∧ a.T ≤ 1099511627776))) := by simp [It.ok, okI]
theorem nless_iff {a b : It} : a.less b = false ↔ ¬ (a.S < b.S ∨ a.S = b.S ∧ (a.K < b.K ∨ a.K = b.K ∧ a.T < b.T)) := by rw [← less_iff]; simp
theorem nwins_iff {a b : It} : a.wins b = false ↔ ¬ (b.V < a.V ∨ a.V = b.V ∧ b.X < a.X) := by rw [← wins_iff]; simp
theorem nhides_iff {a b : It} : a.hides b = false ↔ ¬ (a.K = 1 ∧ b.K = 2 ∧ a.S = b.S ∧ b.V ≤ a.V) := by rw [← hides_iff]; simp
theorem nsame_iff {a b : It} : a.same b = false ↔ ¬ (a.S = b.S ∧ a.K = b.K ∧ a.T = b.T) := by rw [← same_iff]; simp
theorem it_ext {a b : It} (h0 : a.S = b.S) (h1 : a.K = b.K) (h2 : a.T = b.T) (h3 : a.V = b.V) (h4 : a.X = b.X) : a = b := by
  cases a; cases b; simp at *; exact ⟨h0, h1, h2, h3, h4⟩
theorem less_irrefl (a : It) : a.less a = false := by rw [nless_iff]; omega
theorem less_trans {a b c : It} (h1 : a.less b = true) (h2 : b.less c = true) : a.less c = true := by rw [less_iff] at *; omega
theorem less_asymm {a b : It} (h1 : a.less b = true) : b.less a = false := by rw [nless_iff]; rw [less_iff] at h1; omega
theorem less_same {a b c : It} (h1 : a.same b = true) (h2 : b.less c = true) : a.less c = true := by rw [less_iff] at *; rw [same_iff] at h1; omega
theorem tri (a b : It) (h1 : a.same b = false) (h2 : a.less b = false) : b.less a = true := by rw [nsame_iff] at h1; rw [nless_iff] at h2; rw [less_iff]; omega
/-- y stands for x: in its place and not beaten, or hiding it. -/
def dom (y x : It) : Prop := (y.same x = true ∧ x.wins y = false) ∨ y.hides x = true
theorem dom_iff {y x : It} : dom y x ↔ ((y.S = x.S ∧ y.K = x.K ∧ y.T = x.T) ∧ ¬ (y.V < x.V ∨ x.V = y.V ∧ y.X < x.X)) ∨ (y.K = 1 ∧ x.K = 2 ∧ y.S = x.S ∧ x.V ≤ y.V) := by
  unfold dom; rw [same_iff, nwins_iff, hides_iff]
theorem dom_refl (x : It) : dom x x := by rw [dom_iff]; omega
theorem dom_trans {a b c : It} (h1 : dom a b) (h2 : dom b c) : dom a c := by rw [dom_iff] at *; omega
theorem dom_series {a b : It} (h : dom a b) : a.S = b.S := by rw [dom_iff] at h; omega
theorem dom_anti {a b : It} (h1 : dom a b) (h2 : dom b a) : a = b := by
  rw [dom_iff] at *; exact it_ext (by omega) (by omega) (by omega) (by omega) (by omega)
abbrev Rise (l : List It) : Prop := l.Pairwise (fun a b => a.less b = true)
/-- The list l is the state of what M says. -/
def Sta (M : It → Prop) (l : List It) : Prop := Rise l ∧ (∀ x ∈ l, M x) ∧ (∀ t ∈ l, ∀ x ∈ l, t.hides x = false) ∧ ∀ x, M x → ∃ y ∈ l, dom y x
theorem rise_same {l : List It} (h : Rise l) {x y : It} (hx : x ∈ l) (hy : y ∈ l) (hs : x.same y = true) : x = y := by
  induction l with
  | nil => simp at hx
  | cons a r ih =>
    rw [Rise, List.pairwise_cons] at h
    rcases List.mem_cons.1 hx with rfl | hx' <;> rcases List.mem_cons.1 hy with rfl | hy'
    · rfl
    · have := h.1 y hy'; rw [less_iff] at this; rw [same_iff] at hs; omega
    · have := h.1 x hx'; rw [less_iff] at this; rw [same_iff] at hs; omega
    · exact ih h.2 hx' hy'
theorem sta_dom {M : It → Prop} {l : List It} (h : Sta M l) {x y : It} (hx : x ∈ l) (hy : y ∈ l) (hd : dom y x) : y = x := by
  rcases hd with ⟨hs, _⟩ | hh
  · exact rise_same h.1 hy hx hs
  · rw [h.2.2.1 y hy x hx] at hh; cases hh
theorem sta_mem {M : It → Prop} {l m : List It} (h : Sta M l) (h' : Sta M m) {x : It} (hx : x ∈ l) : x ∈ m := by
  obtain ⟨y, hy, hyx⟩ := h'.2.2.2 x (h.2.1 x hx)
  obtain ⟨z, hz, hzy⟩ := h.2.2.2 y (h'.2.1 y hy)
  have e := sta_dom h hx hz (dom_trans hzy hyx)
  subst e
  rw [dom_anti hzy hyx]; exact hy
theorem rise_ext : ∀ {l m : List It}, Rise l → Rise m → (∀ x, x ∈ l ↔ x ∈ m) → l = m
  | [], [], _, _, _ => rfl
  | [], b :: _, _, _, h => by have := (h b).2 (by simp); simp at this
  | a :: _, [], _, _, h => by have := (h a).1 (by simp); simp at this
  | a :: r, b :: s, h1, h2, h => by
    rw [Rise, List.pairwise_cons] at h1 h2
    have e : a = b := by
      rcases List.mem_cons.1 ((h a).1 (by simp)) with e | ha
      · exact e
      · rcases List.mem_cons.1 ((h b).2 (by simp)) with e | hb
        · exact e.symm
        · have p := h2.1 a ha; have q := h1.1 b hb
          rw [less_iff] at p q; omega
    subst e
    rw [rise_ext h1.2 h2.2 fun x => ?_]
    constructor
    · intro hx
      rcases List.mem_cons.1 ((h x).1 (by simp [hx])) with e | hx'
      · subst e; have := h1.1 x hx; rw [less_irrefl] at this; cases this
      · exact hx'
    · intro hx
      rcases List.mem_cons.1 ((h x).2 (by simp [hx])) with e | hx'
      · subst e; have := h2.1 x hx; rw [less_irrefl] at this; cases this
      · exact hx'
theorem sta_unique {M : It → Prop} {l m : List It} (h : Sta M l) (h' : Sta M m) : l = m :=
  rise_ext h.1 h'.1 fun _ => ⟨sta_mem h h', sta_mem h' h⟩
theorem sta_congr {M N : It → Prop} {l : List It} (h : Sta M l) (e : ∀ x, M x ↔ N x) : Sta N l :=
  ⟨h.1, fun x hx => (e x).1 (h.2.1 x hx), h.2.2.1, fun x hx => h.2.2.2 x ((e x).2 hx)⟩
theorem sta_more {M N : It → Prop} {l q : List It} (h : Sta M l) (h' : Sta (fun x => x ∈ l ∨ N x) q) : Sta (fun x => M x ∨ N x) q := by
  refine ⟨h'.1, fun x hx => ?_, h'.2.2.1, fun x hx => ?_⟩
  · rcases h'.2.1 x hx with hl | hn
    · exact .inl (h.2.1 x hl)
    · exact .inr hn
  · rcases hx with hm | hn
    · obtain ⟨y, hy, hyx⟩ := h.2.2.2 x hm
      obtain ⟨z, hz, hzy⟩ := h'.2.2.2 y (.inl hy)
      exact ⟨z, hz, dom_trans hzy hyx⟩
    · exact h'.2.2.2 x (.inr hn)
theorem sta_nil : Sta (fun _ => False) [] := ⟨List.Pairwise.nil, by simp, by simp, fun _ h => h.elim⟩
/-- Add of the document, its loop: none: the list stays. -/
def addGo (x : It) : List It → List It → Bool → Option (List It)
  | [], out, put => some (if put then out else out ++ [x])
  | y :: r, out, put => if y.hides x then none else if x.same y then (if x.wins y then addGo x r out put else none) else
      addGo x r ((if !put && x.less y then out ++ [x] else out) ++ (if x.hides y then [] else [y])) (put || x.less y)
def addL (l : List It) (x : It) : List It := (addGo x l [] false).getD l
theorem addGo_none (x : It) : ∀ (l out : List It) (put : Bool), addGo x l out put = none → ∃ y ∈ l, dom y x
  | [], out, put, h => by simp [addGo] at h
  | y :: r, out, put, h => by
    unfold addGo at h
    by_cases h1 : y.hides x = true
    · exact ⟨y, by simp, .inr h1⟩
    · rw [if_neg h1] at h
      by_cases h2 : x.same y = true
      · rw [if_pos h2] at h
        by_cases h3 : x.wins y = true
        · rw [if_pos h3] at h
          obtain ⟨z, hz, hd⟩ := addGo_none x r out put h
          exact ⟨z, by simp [hz], hd⟩
        · refine ⟨y, by simp, .inl ⟨?_, by simpa using h3⟩⟩
          rw [same_iff] at *; omega
      · rw [if_neg h2] at h
        obtain ⟨z, hz, hd⟩ := addGo_none x r _ _ h
        exact ⟨z, by simp [hz], hd⟩
theorem addGo_some (x : It) : ∀ (l out : List It) (put : Bool) (q : List It), addGo x l out put = some q → (put = true → x ∈ out) →
    (∀ z, z ∈ q ↔ z ∈ out ∨ z = x ∨ (z ∈ l ∧ x.same z = false ∧ x.hides z = false)) ∧ (∀ y ∈ l, y.hides x = false ∧ (x.same y = true → x.wins y = true))
  | [], out, put, q, h, hp => by
    simp only [addGo, Option.some.injEq] at h
    subst h
    refine ⟨fun z => ?_, by simp⟩
    cases put with
    | true => simp; intro e; subst e; exact hp rfl
    | false => simp
  | y :: r, out, put, q, h, hp => by
    unfold addGo at h
    by_cases h1 : y.hides x = true
    · rw [if_pos h1] at h; cases h
    · rw [if_neg h1] at h
      have h1' : y.hides x = false := by simpa using h1
      by_cases h2 : x.same y = true
      · rw [if_pos h2] at h
        by_cases h3 : x.wins y = true
        · rw [if_pos h3] at h
          obtain ⟨hm, ha⟩ := addGo_some x r out put q h hp
          refine ⟨fun z => ?_, fun w hw => ?_⟩
          · rw [hm z]
            constructor
            · rintro (h | h | ⟨h, h'⟩)
              · exact .inl h
              · exact .inr (.inl h)
              · exact .inr (.inr ⟨by simp [h], h'⟩)
            · rintro (h | h | ⟨h, h', h''⟩)
              · exact .inl h
              · exact .inr (.inl h)
              · rcases List.mem_cons.1 h with e | h
                · subst e; rw [h2] at h'; cases h'
                · exact .inr (.inr ⟨h, h', h''⟩)
          · rcases List.mem_cons.1 hw with e | hw
            · subst e; exact ⟨h1', fun _ => h3⟩
            · exact ha w hw
        · rw [if_neg h3] at h; cases h
      · rw [if_neg h2] at h
        have h2' : x.same y = false := by simpa using h2
        have hp' : (put || x.less y) = true → x ∈ (if !put && x.less y then out ++ [x] else out) ++ (if x.hides y then [] else [y]) := by
          intro e
          cases hput : put with
          | true => simp [hp hput]
          | false =>
            rw [hput] at e
            simp at e
            simp [e]
        obtain ⟨hm, ha⟩ := addGo_some x r _ _ q h hp'
        refine ⟨fun z => ?_, fun w hw => ?_⟩
        · rw [hm z]
          constructor
          · rintro (h | h | ⟨h, h'⟩)
            · rcases List.mem_append.1 h with h | h
              · split at h
                · rcases List.mem_append.1 h with h | h
                  · exact .inl h
                  · exact .inr (.inl (by simpa using h))
                · exact .inl h
              · split at h
                · simp at h
                · rename_i hh
                  have e : z = y := by simpa using h
                  subst e
                  exact .inr (.inr ⟨by simp, h2', by simpa using hh⟩)
            · exact .inr (.inl h)
            · exact .inr (.inr ⟨by simp [h], h'⟩)
          · rintro (h | h | ⟨h, h', h''⟩)
            · refine .inl (List.mem_append_left _ ?_)
              split
              · exact List.mem_append_left _ h
              · exact h
            · exact .inr (.inl h)
            · rcases List.mem_cons.1 h with e | h
              · subst e
                refine .inl (List.mem_append_right _ ?_)
                rw [if_neg (by simp [h''])]; simp
              · exact .inr (.inr ⟨h, h', h''⟩)
        · rcases List.mem_cons.1 hw with e | hw
          · subst e; exact ⟨h1', fun e => absurd e h2⟩
          · exact ha w hw
theorem addGo_rise (x : It) : ∀ (l out : List It) (put : Bool) (q : List It), addGo x l out put = some q → Rise l → Rise out → (put = false → ∀ o ∈ out, o.less x = true) → (∀ o ∈ out, ∀ r ∈ l, o.less r = true) → (put = true → ∀ r ∈ l, x.less r = true) → Rise q
  | [], out, put, q, h, _, ho, h1, _, _ => by
    simp only [addGo, Option.some.injEq] at h
    subst h
    cases put with
    | true => exact ho
    | false =>
      refine List.pairwise_append.2 ⟨ho, by simp, fun a ha b hb => ?_⟩
      rw [List.mem_singleton.1 hb]; exact h1 rfl a ha
  | y :: r, out, put, q, h, hl, ho, h1, h2, h3 => by
    unfold addGo at h
    rw [Rise, List.pairwise_cons] at hl
    split at h
    · cases h
    · split at h
      · rename_i hs
        split at h
        · refine addGo_rise x r out put q h hl.2 ho h1 (fun o ho r' hr => h2 o ho r' (by simp [hr])) (fun hp r' hr => h3 hp r' (by simp [hr]))
        · cases h
      · rename_i hs
        have hs' : x.same y = false := by simpa using hs
        have hyo : ∀ o ∈ out, o.less y = true := fun o ho => h2 o ho y (by simp)
        have hM : Rise (if !put && x.less y then out ++ [x] else out) ∧ (∀ o ∈ (if !put && x.less y then out ++ [x] else out), o.less y = true) := by
          split
          · rename_i hc
            simp at hc
            refine ⟨List.pairwise_append.2 ⟨ho, by simp, fun a ha b hb => ?_⟩, fun o ho => ?_⟩
            · rw [List.mem_singleton.1 hb]; exact h1 hc.1 a ha
            · rcases List.mem_append.1 ho with h | h
              · exact hyo o h
              · rw [List.mem_singleton.1 h]; exact hc.2
          · exact ⟨ho, hyo⟩
        have hY : ∀ o ∈ (if x.hides y then ([] : List It) else [y]), o = y := by
          intro o ho; split at ho
          · simp at ho
          · simpa using ho
        refine addGo_rise x r _ _ q h hl.2 (List.pairwise_append.2 ⟨hM.1, by split <;> simp, fun a ha b hb => ?_⟩) (fun hp => ?_) (fun o ho r' hr => ?_) (fun hp r' hr => ?_)
        · rw [hY b hb]; exact hM.2 a ha
        · simp at hp
          intro o ho
          rcases List.mem_append.1 ho with h | h
          · rw [if_neg (by simp [hp.2])] at h
            exact h1 hp.1 o h
          · rw [hY o h]; exact tri _ _ hs' hp.2
        · rcases List.mem_append.1 ho with h | h
          · exact less_trans (hM.2 o h) (hl.1 r' hr)
          · rw [hY o h]; exact hl.1 r' hr
        · cases hput : put with
          | true => exact h3 hput r' (by simp [hr])
          | false =>
            rw [hput] at hp
            simp at hp
            exact less_trans hp (hl.1 r' hr)
theorem addL_sta {M : It → Prop} {l : List It} (h : Sta M l) (x : It) : Sta (fun z => M z ∨ z = x) (addL l x) := by
  unfold addL
  cases hq : addGo x l [] false with
  | none =>
    obtain ⟨y, hy, hd⟩ := addGo_none x l [] false hq
    refine ⟨h.1, fun z hz => .inl (h.2.1 z hz), h.2.2.1, fun z hz => ?_⟩
    rcases hz with hz | rfl
    · exact h.2.2.2 z hz
    · exact ⟨y, hy, hd⟩
  | some q =>
    obtain ⟨hm, ha⟩ := addGo_some x l [] false q hq (by simp)
    have hr := addGo_rise x l [] false q hq h.1 (by simp) (by simp) (by simp) (by simp)
    have hm' : ∀ z, z ∈ q ↔ z = x ∨ (z ∈ l ∧ x.same z = false ∧ x.hides z = false) := fun z => by rw [hm z]; simp
    have hx : x ∈ q := (hm' x).2 (.inl rfl)
    refine ⟨hr, fun z hz => ?_, fun t ht z hz => ?_, fun z hz => ?_⟩
    · rcases (hm' z).1 hz with rfl | ⟨hz, _⟩
      · exact .inr rfl
      · exact .inl (h.2.1 z hz)
    · rcases (hm' t).1 ht with rfl | ⟨ht', _, _⟩ <;> rcases (hm' z).1 hz with rfl | ⟨hz', _, hh⟩
      · rw [nhides_iff]; omega
      · exact hh
      · exact (ha t ht').1
      · exact h.2.2.1 t ht' z hz'
    · rcases hz with hz | rfl
      · obtain ⟨y, hy, hd⟩ := h.2.2.2 z hz
        by_cases c : y ∈ q
        · exact ⟨y, c, hd⟩
        · refine ⟨x, hx, dom_trans ?_ hd⟩
          have hn : ¬ (y = x ∨ (y ∈ l ∧ x.same y = false ∧ x.hides y = false)) := fun hh => c ((hm' y).2 hh)
          by_cases c1 : x.same y = true
          · refine .inl ⟨c1, ?_⟩
            have := (ha y hy).2 c1
            rw [wins_iff] at this; rw [nwins_iff]; omega
          · by_cases c2 : x.hides y = true
            · exact .inr c2
            · exact absurd (.inr ⟨hy, by simpa using c1, by simpa using c2⟩) hn
      · exact ⟨z, hx, dom_refl z⟩
def addOk (l : List It) (x : It) : List It := if x.ok then addL l x else l
def ofL (l : List It) : List It := l.foldl addOk []
theorem fold_sta : ∀ (b : List It) {M : It → Prop} {l : List It}, Sta M l → Sta (fun z => M z ∨ (z ∈ b ∧ z.ok = true)) (b.foldl addOk l)
  | [], M, l, h => by simpa using h
  | x :: b, M, l, h => by
    rw [List.foldl_cons]
    by_cases hx : x.ok = true
    · have h1 : Sta (fun z => M z ∨ z = x) (addOk l x) := by unfold addOk; rw [if_pos hx]; exact addL_sta h x
      refine sta_congr (fold_sta b h1) fun z => ?_
      constructor
      · rintro ((h | rfl) | ⟨h, h'⟩)
        · exact .inl h
        · exact .inr ⟨by simp, hx⟩
        · exact .inr ⟨by simp [h], h'⟩
      · rintro (h | ⟨h, h'⟩)
        · exact .inl (.inl h)
        · rcases List.mem_cons.1 h with rfl | h
          · exact .inl (.inr rfl)
          · exact .inr ⟨h, h'⟩
    · have h1 : addOk l x = l := by unfold addOk; rw [if_neg hx]
      rw [h1]
      refine sta_congr (fold_sta b h) fun z => ?_
      constructor
      · rintro (h | ⟨h, h'⟩)
        · exact .inl h
        · exact .inr ⟨by simp [h], h'⟩
      · rintro (h | ⟨h, h'⟩)
        · exact .inl h
        · rcases List.mem_cons.1 h with rfl | h
          · exact absurd h' hx
          · exact .inr ⟨h, h'⟩
theorem ofL_sta (l : List It) : Sta (fun z => z ∈ l ∧ z.ok = true) (ofL l) := sta_congr (fold_sta l sta_nil) (by simp)
theorem ofL_uniq {l q : List It} (h : Sta (fun z => z ∈ l ∧ z.ok = true) q) : q = ofL l := sta_unique h (ofL_sta l)
theorem ofL_congr {l m : List It} (h : ∀ z, z.ok = true → (z ∈ l ↔ z ∈ m)) : ofL l = ofL m :=
  sta_unique (ofL_sta l) (sta_congr (ofL_sta m) fun z => ⟨fun ⟨a, b⟩ => ⟨(h z b).2 a, b⟩, fun ⟨a, b⟩ => ⟨(h z b).1 a, b⟩⟩)
/-- l is a state. -/
def stP (l : List It) : Prop := Rise l ∧ (∀ x ∈ l, x.ok = true) ∧ ∀ t ∈ l, ∀ x ∈ l, t.hides x = false
theorem stP_sta {l : List It} (h : stP l) : Sta (fun z => z ∈ l ∧ z.ok = true) l := ⟨h.1, fun x hx => ⟨hx, h.2.1 x hx⟩, h.2.2, fun x hx => ⟨x, hx.1, dom_refl x⟩⟩
theorem ofL_self {l : List It} (h : stP l) : ofL l = l := (ofL_uniq (stP_sta h)).symm
theorem ofL_ok (l : List It) : ∀ x ∈ ofL l, x ∈ l ∧ x.ok = true := (ofL_sta l).2.1
theorem ofL_stP (l : List It) : stP (ofL l) := ⟨(ofL_sta l).1, fun x hx => (ofL_ok l x hx).2, (ofL_sta l).2.2.1⟩
theorem ofL_join (l b : List It) : b.foldl addOk (ofL l) = ofL (l ++ b) := by
  refine ofL_uniq (sta_congr (fold_sta b (ofL_sta l)) fun z => ?_)
  simp only [List.mem_append]
  constructor
  · rintro (⟨h, h'⟩ | ⟨h, h'⟩)
    · exact ⟨.inl h, h'⟩
    · exact ⟨.inr h, h'⟩
  · rintro ⟨h | h, h'⟩
    · exact .inl ⟨h, h'⟩
    · exact .inr ⟨h, h'⟩
theorem ofL_of (l b : List It) : ofL (ofL l ++ b) = ofL (l ++ b) := by
  rw [← ofL_join, ← ofL_join, ofL_self (ofL_stP l)]
theorem ofL_of2 (l b : List It) : ofL (l ++ ofL b) = ofL (l ++ b) := by
  rw [ofL_congr (m := ofL b ++ l) (by intro z _; simp [or_comm]), ofL_of]
  exact ofL_congr (by intro z _; simp [or_comm])
theorem ofL_same (l : List It) : ofL (ofL l) = ofL l := ofL_self (ofL_stP l)

end Go.Proofs.YtdldpdllhnpdaaaGreat.Clep

/- A block held whole; what may have changed. No conditions. -/
namespace Go.Proofs.YtdldpdllhnpdaaaGreat.Clep
open Go.RowKit
set_option linter.unusedVariables false
set_option maxRecDepth 10000

/-- The block b holds one value of n cells. -/
def Blk (w : World) (b : Nat) (cs : Array Value) (T : TypeId) : Prop := w.heap[b]? = some (.cells cs T (0, 0))
theorem Blk.shape {w : World} {b : Nat} {cs : Array Value} {T : TypeId} (h : Blk w b cs T) : w.shape? b = some (T, cs.size) := by
  simp [World.shape?, show w.heap[b]? = _ from h]
theorem Blk.cell {w : World} {b : Nat} {cs : Array Value} {T : TypeId} (h : Blk w b cs T) {o : Nat} {v : Value} (hv : cs[o]? = some v) : w.cell? ⟨b, o, none⟩ = some v := by
  simp [World.cell?, show w.heap[b]? = _ from h, hv]
theorem Blk.free {w : World} {b : Nat} {cs : Array Value} {T : TypeId} (h : Blk w b cs T) (o : Nat) : w.frozen? ⟨b, o, none⟩ = false := by
  simp [World.frozen?, show w.heap[b]? = _ from h]
theorem Blk.lt {w : World} {b : Nat} {cs : Array Value} {T : TypeId} (h : Blk w b cs T) : b < w.heap.size := (Array.getElem?_eq_some_iff.1 h).1
theorem Blk.set {w : World} {b : Nat} {cs : Array Value} {T : TypeId} (h : Blk w b cs T) (o : Nat) (v : Value) : Blk (w.setCell ⟨b, o, none⟩ v) b (cs.setIfInBounds o v) T := by
  unfold Blk at *
  simp [World.setCell, Array.getElem?_modify, h]
theorem Blk.other {w : World} {b : Nat} {cs : Array Value} {T : TypeId} (h : Blk w b cs T) (a : Addr) (v : Value) (hne : b ≠ a.block) : Blk (w.setCell a v) b cs T := by
  unfold Blk at *
  rw [Deep.blk_setCell_other w a v b hne]; exact h
theorem Blk.below {w w' : World} {B b : Nat} {cs : Array Value} {T : TypeId} (h : Blk w b cs T) (hb : Below B w w') (hB : b < B) : Blk w' b cs T := by
  unfold Blk at *
  rw [hb.block b hB]; exact h
theorem Blk.keep {w w' : World} {b : Nat} {cs : Array Value} {T : TypeId} (h : Blk w b cs T) (hb : Below w.heap.size w w') : Blk w' b cs T := h.below hb h.lt

/-- Of the blocks that there were only those of P may have changed. -/
structure Ch (P : Nat → Prop) (w w' : World) : Prop where
  os : w'.os = w.os
  tape : w'.tape = w.tape
  output : w'.output = w.output
  size : w.heap.size ≤ w'.heap.size
  block : ∀ k, k < w.heap.size → ¬ P k → w'.heap[k]? = w.heap[k]?
theorem Ch.of {P : Nat → Prop} {w w' : World} (h : Below w.heap.size w w') : Ch P w w' := ⟨h.os, h.tape, h.output, h.size, fun k hk _ => h.block k hk⟩
theorem Ch.trans {P : Nat → Prop} {w w1 w2 : World} (h : Ch P w w1) (k : Ch P w1 w2) : Ch P w w2 :=
  ⟨k.os.trans h.os, k.tape.trans h.tape, k.output.trans h.output, Nat.le_trans h.size k.size, fun i hi hp => (k.block i (Nat.lt_of_lt_of_le hi h.size) hp).trans (h.block i hi hp)⟩
theorem Ch.mono {P Q : Nat → Prop} {w w' : World} (h : Ch P w w') (hpq : ∀ i, i < w.heap.size → P i → Q i) : Ch Q w w' :=
  ⟨h.os, h.tape, h.output, h.size, fun k hk hq => h.block k hk fun hp => hq (hpq k hk hp)⟩
theorem Ch.set {P : Nat → Prop} (w : World) (a : Addr) (v : Value) (h : P a.block) : Ch P w (w.setCell a v) :=
  ⟨rfl, rfl, rfl, by simp [World.setCell], fun k hk hp => Below.heap_setCell _ _ _ _ fun e => hp (e ▸ h)⟩
theorem Ch.below {P : Nat → Prop} {w w' : World} {B : Nat} (h : Ch P w w') (hB : B ≤ w.heap.size) (hP : ∀ i, P i → B ≤ i) : Below B w w' :=
  ⟨h.os, h.tape, h.output, h.size, fun k hk => h.block k (by omega) fun hp => by have := hP k hp; omega⟩
theorem Blk.ch {P : Nat → Prop} {w w' : World} {b : Nat} {cs : Array Value} {T : TypeId} (h : Blk w b cs T) (hc : Ch P w w') (hp : ¬ P b) : Blk w' b cs T := by
  unfold Blk at *
  rw [hc.block b (Blk.lt h) hp]; exact h

theorem Below.ch {B : Nat} {P : Nat → Prop} {w w1 w2 : World} (h : Below B w w1) (hc : Ch P w1 w2) (hB : B ≤ w1.heap.size) (hP : ∀ i, P i → B ≤ i) : Below B w w2 := h.trans (hc.below hB hP)

end Go.Proofs.YtdldpdllhnpdaaaGreat.Clep
