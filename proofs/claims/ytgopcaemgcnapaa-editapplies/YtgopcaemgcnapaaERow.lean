/- Rows of files that a call made, more files behind them. -/
import Derived.Test.YtgopcaemgcnapaaEView
import Derived.Maps.AppendAt
import Derived.Laws.AppendOwnNone
import Derived.Deep.RegionHeldLaw
namespace Go.Proofs.Ytgopcaemgcnapaa.Clep
open Go.RowKit
set_option linter.unusedVariables false
set_option maxRecDepth 10000

theorem fgb_below {w w' : World} (h : Below w.heap.size w w') (row : Option Nat) : w.grownBy w' row := ⟨h.os, h.tape, h.output, h.size, fun i hi _ => h.block i hi⟩
def fcv (x : Fi) : List Value := [.int .i64 x.L, .int .i64 x.N]
def fcvs (l : List Fi) : List Value := l.flatMap fcv
theorem fcvs_len (l : List Fi) : (fcvs l).length = l.length * 2 := by
  induction l with
  | nil => rfl
  | cons x r ih => simp [fcvs, fcv] at ih ⊢; omega
theorem fcvs_get (l : List Fi) : ∀ (i j : Nat) (x : Fi), l[i]? = some x → j < 2 → (fcvs l)[i * 2 + j]? = (fcv x)[j]? := by
  induction l with
  | nil => intro i j x h; simp at h
  | cons y r ih =>
    intro i j x h hj
    have e : fcvs (y :: r) = fcv y ++ fcvs r := by simp [fcvs]
    rw [e]
    cases i with
    | zero =>
      simp at h; subst h
      rw [Nat.zero_mul, Nat.zero_add, List.getElem?_append_left (by simp [fcv]; omega)]
    | succ i =>
      simp at h
      rw [List.getElem?_append_right (by simp [fcv]; omega), show (i + 1) * 2 + j - (fcv y).length = i * 2 + j from by simp [fcv]; omega]
      exact ih i j x h hj
/-- The slice value v owns the files l, in a row of the call's own from block B on. -/
def OwnF (w : World) (B : Nat) (v : Value) (l : List Fi) : Prop := w.ownsRow B 29 2 v l.length (fcvs l)
theorem infoFi : (Try.prog.info? 29).map (fun i => (i.zero, i.size, i.bytes)) = some (some (.agg #[.int .i64 0, .int .i64 0]), 2, 16) := by kernel_rfl
theorem ownF_nil (w : World) (B : Nat) : OwnF w B (.slice none 0 0) [] := World.ownsRow_nil _ _ _ _
theorem ownF_grown {w w' : World} {B : Nat} {v : Value} {l : List Fi} {row : Option Nat} (h : OwnF w B v l) (hg : w.grownBy w' row) (hne : ∀ k, row = some k → k < B) : OwnF w' B v l := by
  refine World.ownsRow.kept h hg ?_
  cases hv : v.ownBlock with
  | none => exact .inl rfl
  | some k =>
    refine .inr fun e => ?_
    have := (World.ownsRow.lt h k hv).1
    have := hne k e.symm
    omega
theorem ownF_keep {w w' : World} {B : Nat} {v : Value} {l : List Fi} (h : OwnF w B v l) (hb : Below w.heap.size w w') : OwnF w' B v l := ownF_grown h (fgb_below hb none) (by simp)
theorem ownF_base {w : World} {B C : Nat} {v : Value} {l : List Fi} (h : OwnF w B v l) (hc : C ≤ B) : OwnF w C v l := by
  obtain ⟨hl, ⟨rfl, hn⟩ | ⟨g, cap, cur, rfl, hg, hh, hnc, hcm, hcs, hx⟩⟩ := h
  · exact ⟨hl, .inl ⟨rfl, hn⟩⟩
  · exact ⟨hl, .inr ⟨g, cap, cur, rfl, Nat.le_trans hc hg, hh, hnc, hcm, hcs, hx⟩⟩
theorem ownF_fs {w : World} {B : Nat} {v : Value} {l : List Fi} (h : OwnF w B v l) (hw : ∀ x ∈ l, x.wf) : ∃ ao cap, v = .slice ao l.length cap ∧ cap ≤ 9223372036854775807 ∧ Fs w ao l.length cap l ∧ ∀ a, ao = some a → B ≤ a.block := by
  have h0 := h
  obtain ⟨hl, ⟨rfl, hn⟩ | ⟨g, cap, cur, rfl, hg, hh, hnc, hcm, hcs, hx⟩⟩ := h
  · rw [hn]
    have : l = [] := List.eq_nil_of_length_eq_zero hn
    subst this
    exact ⟨none, 0, rfl, by omega, fs_nil w, fun a h => by cases h⟩
  · refine ⟨_, cap, rfl, by unfold maxLen at hcm; omega, ⟨rfl, ⟨hnc, fun h => by cases h⟩, hw, fun _ => ⟨g, 0, rfl, fun i x hi => ?_⟩⟩, fun a h => by cases h; exact hg⟩
    have hc : ∀ j, j < 2 → ∀ u, (fcv x)[j]? = some u → w.cell? ⟨g, 0 + (i * 2) + j, none⟩ = some u := fun j hj u hu => by
      have := World.ownsRow.cells h0 (g := g) rfl (i * 2 + j) u (by rw [fcvs_get l i j x hi hj]; exact hu)
      rw [add_plain] at this
      rw [Nat.add_assoc]
      exact this
    exact ⟨hc 0 (by omega) _ rfl, hc 1 (by omega) _ rfl⟩
/-- An append of any files to a row of the call's own. -/
theorem wpList_append_files {w : World} {ops : Array Oper} {rest : List Oper} {o : Oper} {a : Act} {Q : Exit → Act → World → Prop} (hgd : o.guard = none) (s x : Operand)
    (ho : o.op = .call { callee := .builtin .append, args := #[s, x], argTypes := #[23, 23] })
    (base : Nat) (v : Value) (l : List Fi) (hs : a.eval s = v) (hown : OwnF w base v l) (ao : Option Addr) (len cap : Nat) (m : List Fi) (hx : a.eval x = .slice ao len cap) (hb : Fs w ao len cap m)
    (hlen : l.length + len ≤ 3518437208883) (hbase : base ≤ w.heap.size)
    (h : ∀ v' w', OwnF w' base v' (l ++ m) → w.grownBy w' v.ownBlock → (∀ k, v.ownBlock = some k → base ≤ k) → wpList Try.prog ops Q rest (a.put o.dst v') w') : wpList Try.prog ops Q (o :: rest) a w := by
  obtain ⟨i0, hi, hz0, hz1, hz2⟩ := info_parts infoFi
  have hbk : ∀ k, v.ownBlock = some k → base ≤ k := fun k hk => (World.ownsRow.lt hown k hk).1
  cases ao with
  | none =>
    obtain ⟨rfl, rfl⟩ := hb.2.1.2 rfl
    have hy : m = [] := List.eq_nil_of_length_eq_zero hb.1
    subst hy
    exact wpList_append_own_none hgd s x 23 ho base 29 i0 2 Try.underlying23 hi v l.length (fcvs l) hs hown hx (h v w (by rwa [List.append_nil]) (fgb_below (Below.refl _ _) _) hbk)
  | some ad =>
    refine wpList_append_own _ hgd s x 23 ho base 29 i0 _ 2 16 Try.underlying23 hi hz0 hz1 hz2 rfl (by decide) v l.length (fcvs l) hs hown ad len cap (fcvs m) hx (by rw [fcvs_len, hb.1]) ?_ ?_
      (by unfold maxLen; omega) (by omega) hbase ?_
    · intro j u hu
      have hj : j < m.length * 2 := by rw [← fcvs_len]; exact (List.getElem?_eq_some_iff.1 hu).1
      obtain ⟨b, off, had, hc⟩ := hb.2.2.2 (by have := hb.1; omega)
      cases had
      obtain ⟨y, hy⟩ : ∃ y, m[j / 2]? = some y := ⟨_, List.getElem?_eq_getElem (by omega)⟩
      have e : j = j / 2 * 2 + j % 2 := by omega
      rw [e, fcvs_get m (j / 2) (j % 2) y hy (by omega)] at hu
      have g := hc (j / 2) y hy
      rw [add_plain]
      have hm : j % 2 = 0 ∨ j % 2 = 1 := by omega
      rw [show off + j = off + j / 2 * 2 + j % 2 from by omega]
      rcases hm with hm | hm <;> rw [hm] at hu ⊢ <;> simp [fcv] at hu <;> subst hu
      · exact g.1
      · exact g.2
    · intro u hu
      obtain ⟨y, _, hy⟩ := List.mem_flatMap.1 hu
      simp only [fcv, List.mem_cons, List.not_mem_nil, or_false] at hy
      rcases hy with rfl | rfl <;> rfl
    intro v' w' h1 h2 _
    refine h v' w' ?_ h2 hbk
    unfold OwnF
    rw [List.length_append, hb.1, show fcvs (l ++ m) = fcvs l ++ fcvs m from by simp [fcvs]]
    exact h1
/-- An append of any files to a row of the call's own, at a step. -/
theorem step_append_files {w : World} {ops : Array Oper} {o : Oper} {a : Act} {K : Act → World → Prop} {Q : Exit → Act → World → Prop} {E : Prop} (hgd : o.guard = none) (s x : Operand)
    (ho : o.op = .call { callee := .builtin .append, args := #[s, x], argTypes := #[23, 23] })
    (base : Nat) (v : Value) (l : List Fi) (hs : a.eval s = v) (hown : OwnF w base v l) (ao : Option Addr) (len cap : Nat) (m : List Fi) (hx : a.eval x = .slice ao len cap) (hb : Fs w ao len cap m)
    (hlen : l.length + len ≤ 3518437208883) (hbase : base ≤ w.heap.size)
    (h : ∀ v' w', OwnF w' base v' (l ++ m) → w.grownBy w' v.ownBlock → (∀ k, v.ownBlock = some k → base ≤ k) → K (a.put o.dst v') w') :
    if Region.wanted o (yielded ops a.tmps) = true then Oper.wp Try.prog o a w K Q else E := by
  have hw : Region.wanted o (yielded ops a.tmps) = true := by simp [Region.wanted, hgd]
  rw [if_pos hw]
  have hbk : ∀ k, v.ownBlock = some k → base ≤ k := fun k hk => (World.ownsRow.lt hown k hk).1
  obtain ⟨i0, hi, hz0, hz1, hz2⟩ := info_parts infoFi
  cases ao with
  | none =>
    obtain ⟨rfl, rfl⟩ := hb.2.1.2 rfl
    have hy : m = [] := List.eq_nil_of_length_eq_zero hb.1
    subst hy
    have hr := run_append_owned_none (P := Try.prog) (w := w) base 23 o.type 29 i0 2 Try.underlying23 hi v l.length (fcvs l) hown
    unfold Oper.wp
    simp [execOp, ho, resolve, invoke, builtin, hs, hx, hr, Result.andThen]
    exact h v w (by rwa [List.append_nil]) (fgb_below (Below.refl _ _) _) hbk
  | some ad =>
    refine wp_append_own _ s x 23 ho base 29 i0 _ 2 16 Try.underlying23 hi hz0 hz1 hz2 rfl (by decide) v l.length (fcvs l) hs hown ad len cap (fcvs m) hx (by rw [fcvs_len, hb.1]) ?_ ?_
      (by unfold maxLen; omega) (by omega) hbase ?_
    · intro j u hu
      have hj : j < m.length * 2 := by rw [← fcvs_len]; exact (List.getElem?_eq_some_iff.1 hu).1
      obtain ⟨b, off, had, hc⟩ := hb.2.2.2 (by have := hb.1; omega)
      cases had
      obtain ⟨y, hy⟩ : ∃ y, m[j / 2]? = some y := ⟨_, List.getElem?_eq_getElem (by omega)⟩
      have e : j = j / 2 * 2 + j % 2 := by omega
      rw [e, fcvs_get m (j / 2) (j % 2) y hy (by omega)] at hu
      have g := hc (j / 2) y hy
      rw [add_plain]
      have hm : j % 2 = 0 ∨ j % 2 = 1 := by omega
      rw [show off + j = off + j / 2 * 2 + j % 2 from by omega]
      rcases hm with hm | hm <;> rw [hm] at hu ⊢ <;> simp [fcv] at hu <;> subst hu
      · exact g.1
      · exact g.2
    · intro u hu
      obtain ⟨y, _, hy⟩ := List.mem_flatMap.1 hu
      simp only [fcv, List.mem_cons, List.not_mem_nil, or_false] at hy
      rcases hy with rfl | rfl <;> rfl
    intro v' w' h1 h2 _
    refine h v' w' ?_ h2 hbk
    unfold OwnF
    rw [List.length_append, hb.1, show fcvs (l ++ m) = fcvs l ++ fcvs m from by simp [fcvs]]
    exact h1
theorem ownF_empty {w : World} {B g : Nat} (h : w.heap[g]? = some (.cells #[] 29)) (hg : B ≤ g) : OwnF w B (.slice (some ⟨g, 0, none⟩) 0 0) [] :=
  ⟨rfl, .inr ⟨g, 0, #[], rfl, hg, h, Nat.le_refl _, by unfold maxLen; omega, rfl, rfl⟩⟩
theorem fs_block {w : World} {p : Nat} {L N : Int} (hw : Fi.wf ⟨L, N⟩) (h : w.heap[p]? = some (.cells #[.int .i64 L, .int .i64 N] 29)) : Fs w (some ⟨p, 0, none⟩) 1 1 [⟨L, N⟩] := by
  refine ⟨rfl, ⟨Nat.le_refl _, fun h => by cases h⟩, fun x hx => by rw [List.mem_singleton.1 hx]; exact hw, fun _ => ⟨p, 0, rfl, fun i x hi => ?_⟩⟩
  cases i with
  | zero =>
    simp at hi
    subst hi
    simp [World.cell?, h]
  | succ i => simp at hi

end Go.Proofs.Ytgopcaemgcnapaa.Clep
