/- Rows of items that a call made: one item more, and what such a row leads to. Conditions: at most 2^40 items. -/
import Derived.Test.YtfmofkkjnepbcaaIReadItem
namespace Go.Proofs.Ytfmofkkjnepbcaa.Clep
open Go.RowKit
set_option linter.unusedVariables false

def cv (x : It) : List Value := [.int .i64 x.S, .int .i64 x.K, .int .u64 x.T, .int .u64 x.V, .int .i64 x.X]
def cvs (l : List It) : List Value := l.flatMap cv
theorem cvs_len (l : List It) : (cvs l).length = l.length * 5 := by
  induction l with
  | nil => rfl
  | cons x r ih => simp [cvs, cv] at ih ⊢; omega
theorem cvs_get (l : List It) : ∀ (i j : Nat) (x : It), l[i]? = some x → j < 5 → (cvs l)[i * 5 + j]? = (cv x)[j]? := by
  induction l with
  | nil => intro i j x h; simp at h
  | cons y r ih =>
    intro i j x h hj
    have e : cvs (y :: r) = cv y ++ cvs r := by simp [cvs]
    rw [e]
    cases i with
    | zero =>
      simp at h; subst h
      rw [Nat.zero_mul, Nat.zero_add, List.getElem?_append_left (by simp [cv]; omega)]
    | succ i =>
      simp at h
      rw [List.getElem?_append_right (by simp [cv]; omega), show (i + 1) * 5 + j - (cv y).length = i * 5 + j from by simp [cv]; omega]
      exact ih i j x h hj
/-- The slice value v owns the items l, in a row of the call's own from block B on. -/
def OwnI (w : World) (B : Nat) (v : Value) (l : List It) : Prop := w.ownsRow B 24 5 v l.length (cvs l)
theorem infoI : (Try.prog.info? 24).map (fun i => (i.zero, i.size, i.bytes)) = some (some (.agg #[.int .i64 0, .int .i64 0, .int .u64 0, .int .u64 0, .int .i64 0]), 5, 40) := by kernel_rfl
theorem ownI_nil (w : World) (B : Nat) : OwnI w B (.slice none 0 0) [] := World.ownsRow_nil _ _ _ _
theorem ownI_grown {w w' : World} {B : Nat} {v : Value} {l : List It} {row : Option Nat} (h : OwnI w B v l) (hg : w.grownBy w' row) (hne : ∀ k, row = some k → k < B) : OwnI w' B v l := by
  refine World.ownsRow.kept h hg ?_
  cases hv : v.ownBlock with
  | none => exact .inl rfl
  | some k =>
    refine .inr fun e => ?_
    have := (World.ownsRow.lt h k hv).1
    have := hne k e.symm
    omega
theorem ownI_keep {w w' : World} {B : Nat} {v : Value} {l : List It} (h : OwnI w B v l) (hb : Below w.heap.size w w') : OwnI w' B v l := ownI_grown h (gb_below hb none) (by simp)
theorem ownI_base {w : World} {B C : Nat} {v : Value} {l : List It} (h : OwnI w B v l) (hc : C ≤ B) : OwnI w C v l := by
  obtain ⟨hl, ⟨rfl, hn⟩ | ⟨g, cap, cur, rfl, hg, hh, hnc, hcm, hcs, hx⟩⟩ := h
  · exact ⟨hl, .inl ⟨rfl, hn⟩⟩
  · exact ⟨hl, .inr ⟨g, cap, cur, rfl, Nat.le_trans hc hg, hh, hnc, hcm, hcs, hx⟩⟩
theorem ownI_is {w : World} {B : Nat} {v : Value} {l : List It} (h : OwnI w B v l) (hw : ∀ x ∈ l, x.wf) : ∃ ao cap, v = .slice ao l.length cap ∧ cap ≤ 9223372036854775807 ∧ Is w ao l.length cap l ∧ ∀ a, ao = some a → B ≤ a.block := by
  have h0 := h
  obtain ⟨hl, ⟨rfl, hn⟩ | ⟨g, cap, cur, rfl, hg, hh, hnc, hcm, hcs, hx⟩⟩ := h
  · rw [hn]
    have : l = [] := List.eq_nil_of_length_eq_zero hn
    subst this
    exact ⟨none, 0, rfl, by omega, is_nil w, fun a h => by cases h⟩
  · refine ⟨_, cap, rfl, by unfold maxLen at hcm; omega, ⟨rfl, ⟨hnc, fun h => by cases h⟩, hw, fun _ => ⟨g, 0, rfl, fun i x hi => ?_⟩⟩, fun a h => by cases h; exact hg⟩
    have hc : ∀ j, j < 5 → ∀ u, (cv x)[j]? = some u → w.cell? ⟨g, 0 + (i * 5) + j, none⟩ = some u := fun j hj u hu => by
      have := World.ownsRow.cells h0 (g := g) rfl (i * 5 + j) u (by rw [cvs_get l i j x hi hj]; exact hu)
      rw [add_plain] at this
      rw [Nat.add_assoc]
      exact this
    exact ⟨hc 0 (by omega) _ rfl, hc 1 (by omega) _ rfl, hc 2 (by omega) _ rfl, hc 3 (by omega) _ rfl, hc 4 (by omega) _ rfl⟩
def lenOf : Value → Nat | .slice _ l _ => l | _ => 0
theorem ownI_len {w : World} {B : Nat} {v : Value} {l : List It} (h : OwnI w B v l) : lenOf v = l.length := by
  obtain ⟨hl, ⟨rfl, hn⟩ | ⟨g, cap, cur, rfl, hg, hh, hnc, hcm, hcs, hx⟩⟩ := h
  · rw [hn]; rfl
  · rfl

/-- An append of any items to a row of the call's own. -/
theorem wpList_append_items {w : World} {ops : Array Oper} {rest : List Oper} {o : Oper} {a : Act} {Q : Exit → Act → World → Prop} (hgd : o.guard = none) (s x : Operand)
    (ho : o.op = .call { callee := .builtin .append, args := #[s, x], argTypes := #[31, 31] })
    (base : Nat) (v : Value) (l : List It) (hs : a.eval s = v) (hown : OwnI w base v l) (ao : Option Addr) (len cap : Nat) (m : List It) (hx : a.eval x = .slice ao len cap) (hb : Is w ao len cap m)
    (hlen : l.length + len ≤ 1099511627776) (hbase : base ≤ w.heap.size)
    (h : ∀ v' w', OwnI w' base v' (l ++ m) → w.grownBy w' v.ownBlock → (∀ k, v.ownBlock = some k → base ≤ k) → wpList Try.prog ops Q rest (a.put o.dst v') w') : wpList Try.prog ops Q (o :: rest) a w := by
  obtain ⟨i0, hi, hz0, hz1, hz2⟩ := info_parts infoI
  have hbk : ∀ k, v.ownBlock = some k → base ≤ k := fun k hk => (World.ownsRow.lt hown k hk).1
  cases ao with
  | none =>
    obtain ⟨rfl, rfl⟩ := hb.2.1.2 rfl
    have hy : m = [] := List.eq_nil_of_length_eq_zero hb.1
    subst hy
    exact wpList_append_own_none hgd s x 31 ho base 24 i0 5 Try.underlying31 hi v l.length (cvs l) hs hown hx (h v w (by rwa [List.append_nil]) (gb_below (Below.refl _ _) _) hbk)
  | some ad =>
    refine wpList_append_own _ hgd s x 31 ho base 24 i0 _ 5 40 Try.underlying31 hi hz0 hz1 hz2 rfl (by decide) v l.length (cvs l) hs hown ad len cap (cvs m) hx (by rw [cvs_len, hb.1]) ?_ ?_
      (by unfold maxLen; omega) (by omega) hbase ?_
    · intro j u hu
      have hj : j < m.length * 5 := by rw [← cvs_len]; exact (List.getElem?_eq_some_iff.1 hu).1
      obtain ⟨b, off, had, hc⟩ := hb.2.2.2 (by have := hb.1; omega)
      cases had
      obtain ⟨y, hy⟩ : ∃ y, m[j / 5]? = some y := ⟨_, List.getElem?_eq_getElem (by omega)⟩
      have e : j = j / 5 * 5 + j % 5 := by omega
      rw [e, cvs_get m (j / 5) (j % 5) y hy (by omega)] at hu
      have g := hc (j / 5) y hy
      unfold Vt Vi at g
      rw [add_plain]
      have hm : j % 5 = 0 ∨ j % 5 = 1 ∨ j % 5 = 2 ∨ j % 5 = 3 ∨ j % 5 = 4 := by omega
      rw [show off + j = off + j / 5 * 5 + j % 5 from by omega]
      rcases hm with hm | hm | hm | hm | hm <;> rw [hm] at hu ⊢ <;> simp [cv] at hu <;> subst hu
      · exact g.1
      · exact g.2.1
      · exact g.2.2.1
      · exact g.2.2.2.1
      · exact g.2.2.2.2
    · intro u hu
      obtain ⟨y, _, hy⟩ := List.mem_flatMap.1 hu
      simp only [cv, List.mem_cons, List.not_mem_nil, or_false] at hy
      rcases hy with rfl | rfl | rfl | rfl | rfl <;> rfl
    intro v' w' h1 h2 _
    refine h v' w' ?_ h2 hbk
    unfold OwnI
    rw [List.length_append, hb.1, show cvs (l ++ m) = cvs l ++ cvs m from by simp [cvs]]
    exact h1

end Go.Proofs.Ytfmofkkjnepbcaa.Clep
