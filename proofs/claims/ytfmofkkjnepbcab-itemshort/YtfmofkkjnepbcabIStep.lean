/- Appends of items at a step of a region that draws its order. Conditions: at most 2^40 items. -/
import Derived.Test.YtfmofkkjnepbcabIMay
import Derived.Deep.RegionHeldLaw
namespace Go.Proofs.Ytfmofkkjnepbcab.Clep
open Go.RowKit
set_option linter.unusedVariables false

/-- An append of any items to a row of the call's own, at a step. -/
theorem step_append_items {w : World} {ops : Array Oper} {o : Oper} {a : Act} {K : Act → World → Prop} {Q : Exit → Act → World → Prop} {E : Prop} (hgd : o.guard = none) (s x : Operand)
    (ho : o.op = .call { callee := .builtin .append, args := #[s, x], argTypes := #[22, 22] })
    (base : Nat) (v : Value) (l : List It) (hs : a.eval s = v) (hown : OwnI w base v l) (ao : Option Addr) (len cap : Nat) (m : List It) (hx : a.eval x = .slice ao len cap) (hb : Is w ao len cap m)
    (hlen : l.length + len ≤ 1099511627776) (hbase : base ≤ w.heap.size)
    (h : ∀ v' w', OwnI w' base v' (l ++ m) → w.grownBy w' v.ownBlock → (∀ k, v.ownBlock = some k → base ≤ k) → K (a.put o.dst v') w') :
    if Region.wanted o (yielded ops a.tmps) = true then Oper.wp Try.prog o a w K Q else E := by
  have hw : Region.wanted o (yielded ops a.tmps) = true := by simp [Region.wanted, hgd]
  rw [if_pos hw]
  have hbk : ∀ k, v.ownBlock = some k → base ≤ k := fun k hk => (World.ownsRow.lt hown k hk).1
  obtain ⟨i0, hi, hz0, hz1, hz2⟩ := info_parts infoI
  cases ao with
  | none =>
    obtain ⟨rfl, rfl⟩ := hb.2.1.2 rfl
    have hy : m = [] := List.eq_nil_of_length_eq_zero hb.1
    subst hy
    have hr := run_append_owned_none (P := Try.prog) (w := w) base 22 o.type 25 i0 5 Try.underlying22 hi v l.length (cvs l) hown
    unfold Oper.wp
    simp [execOp, ho, resolve, invoke, builtin, hs, hx, hr, Result.andThen]
    exact h v w (by rwa [List.append_nil]) (gb_below (Below.refl _ _) _) hbk
  | some ad =>
    refine wp_append_own _ s x 22 ho base 25 i0 _ 5 40 Try.underlying22 hi hz0 hz1 hz2 rfl (by decide) v l.length (cvs l) hs hown ad len cap (cvs m) hx (by rw [cvs_len, hb.1]) ?_ ?_
      (by unfold maxLen; omega) (by omega) hbase ?_
    · intro j u hu
      have hj : j < m.length * 5 := by rw [← cvs_len]; exact (List.getElem?_eq_some_iff.1 hu).1
      obtain ⟨b, off, had, hc⟩ := hb.2.2.2 (by have := hb.1; omega)
      cases had
      obtain ⟨y, hy⟩ : ∃ y, m[j / 5]? = some y := ⟨_, List.getElem?_eq_getElem (by omega)⟩
      have e : j = j / 5 * 5 + j % 5 := by omega
      rw [e, cvs_get m (j / 5) (j % 5) y hy (by omega)] at hu
      have g := hc (j / 5) y hy
      unfold Vt Vi at g
      rw [add_plain]
      have hm : j % 5 = 0 ∨ j % 5 = 1 ∨ j % 5 = 2 ∨ j % 5 = 3 ∨ j % 5 = 4 := by omega
      rw [show off + j = off + j / 5 * 5 + j % 5 from by omega]
      rcases hm with hm | hm | hm | hm | hm <;> rw [hm] at hu ⊢ <;> simp [cv] at hu <;> subst hu
      · exact g.1
      · exact g.2.1
      · exact g.2.2.1
      · exact g.2.2.2.1
      · exact g.2.2.2.2
    · intro u hu
      obtain ⟨y, _, hy⟩ := List.mem_flatMap.1 hu
      simp only [cv, List.mem_cons, List.not_mem_nil, or_false] at hy
      rcases hy with rfl | rfl | rfl | rfl | rfl <;> rfl
    intro v' w' h1 h2 _
    refine h v' w' ?_ h2 hbk
    unfold OwnI
    rw [List.length_append, hb.1, show cvs (l ++ m) = cvs l ++ cvs m from by simp [cvs]]
    exact h1
theorem hpS (W : World) (o : Obj) (k : Nat) (hk : k = W.heap.size) : (W.alloc o).heap[k]? = some o := by
  subst hk
  show (W.heap.push o)[W.heap.size]? = _
  simp
theorem hpO {W : World} {k : Nat} {x : Obj} (o : Obj) (h : W.heap[k]? = some x) : (W.alloc o).heap[k]? = some x := by
  have := (Array.getElem?_eq_some_iff.1 h).1
  rw [Below.heap_alloc W o k this]; exact h
theorem hpD {W : World} {k : Nat} {x : Obj} (h : W.heap[k]? = some x) : W.drew.heap[k]? = some x := h
theorem hpG {W W' : World} {row : Option Nat} {k : Nat} {x : Obj} (hg : W.grownBy W' row) (h : W.heap[k]? = some x) (hne : some k ≠ row) : W'.heap[k]? = some x := by
  rw [hg.block k (Array.getElem?_eq_some_iff.1 h).1 hne]; exact h
theorem ownI_empty {w : World} {B g : Nat} (h : w.heap[g]? = some (.cells #[] 25)) (hg : B ≤ g) : OwnI w B (.slice (some ⟨g, 0, none⟩) 0 0) [] :=
  ⟨rfl, .inr ⟨g, 0, #[], rfl, hg, h, Nat.le_refl _, by unfold maxLen; omega, rfl, rfl⟩⟩
theorem is_block {w : World} {p : Nat} {S K T V X : Int} (hw : It.wf ⟨S, K, T, V, X⟩) (h : w.heap[p]? = some (.cells #[.int .i64 S, .int .i64 K, .int .u64 T, .int .u64 V, .int .i64 X] 25)) : Is w (some ⟨p, 0, none⟩) 1 1 [⟨S, K, T, V, X⟩] := by
  refine ⟨rfl, ⟨Nat.le_refl _, fun h => by cases h⟩, fun x hx => by rw [List.mem_singleton.1 hx]; exact hw, fun _ => ⟨p, 0, rfl, fun i x hi => ?_⟩⟩
  cases i with
  | zero =>
    simp at hi
    subst hi
    unfold Vt Vi
    simp [World.cell?, h]
  | succ i => simp at hi

end Go.Proofs.Ytfmofkkjnepbcab.Clep
