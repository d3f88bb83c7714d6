/- An append of rows to a row of rows that the call made, at a step. Conditions: at most a thousand rows. -/
import Derived.Test.YtkkcchklefcljaaVAwake
namespace Go.Proofs.Ytkkcchklefcljaa.Clep
open Go.RowKit
set_option linter.unusedVariables false
set_option maxRecDepth 10000

theorem ownS_empty {w : World} {B g : Nat} (h : w.heap[g]? = some (.cells #[] 25)) (hg : B ≤ g) : OwnS w B (.slice (some ⟨g, 0, none⟩) 0 0) [] :=
  ⟨rfl, .inr ⟨g, 0, #[], rfl, hg, h, Nat.le_refl _, by unfold maxLen; omega, rfl, rfl⟩⟩
theorem ownS_len {w : World} {B : Nat} {v : Value} {zs : List Sl} (h : OwnS w B v zs) : ∃ a c, v = .slice a zs.length c := by
  obtain ⟨hl, ⟨rfl, hn⟩ | ⟨g, cap, cur, rfl, _⟩⟩ := h
  · exact ⟨none, 0, by rw [hn]⟩
  · exact ⟨_, _, rfl⟩
theorem step_append_rows {w : World} {ops : Array Oper} {o : Oper} {a : Act} {K : Act → World → Prop} {Q : Exit → Act → World → Prop} {E : Prop} (d : Option Nat) (hd : o.dst = d) (hgd : o.guard = none) (s x : Operand)
    (ho : o.op = .call { callee := .builtin .append, args := #[s, x], argTypes := #[22, 22] })
    (base : Nat) (v : Value) (zs : List Sl) (hs : a.eval s = v) (hown : OwnS w base v zs) (ao : Option Addr) (len cap : Nat) (ms : List Sl) (hx : a.eval x = .slice ao len cap) (hb : Rws w ao len cap ms)
    (hlen : zs.length + len ≤ 1000) (hbase : base ≤ w.heap.size)
    (h : ∀ v' w', OwnS w' base v' (zs ++ ms) → w.grownBy w' v.ownBlock → (∀ k, v.ownBlock = some k → base ≤ k) → K (a.put d v') w') :
    if Region.wanted o (yielded ops a.tmps) = true then Oper.wp Try.prog o a w K Q else E := by
  subst hd
  have hw : Region.wanted o (yielded ops a.tmps) = true := by simp [Region.wanted, hgd]
  rw [if_pos hw]
  have hbk : ∀ k, v.ownBlock = some k → base ≤ k := fun k hk => (World.ownsRow.lt hown k hk).1
  obtain ⟨i0, hi, hz0, hz1, hz2⟩ := info_parts infoS
  cases ao with
  | none =>
    obtain ⟨rfl, rfl⟩ := hb.2.1.2 rfl
    have hy : ms = [] := List.eq_nil_of_length_eq_zero hb.1
    subst hy
    have hr := run_append_owned_none (P := Try.prog) (w := w) base 22 o.type 25 i0 1 Try.underlying22 hi v zs.length (sv zs) hown
    unfold Oper.wp
    simp [execOp, ho, resolve, invoke, builtin, hs, hx, hr, Result.andThen]
    exact h v w (by rwa [List.append_nil]) (gb_below (Below.refl _ _) _) hbk
  | some ad =>
    refine wp_append_own _ s x 22 ho base 25 i0 _ 1 24 Try.underlying22 hi hz0 hz1 hz2 rfl (by decide) v zs.length (sv zs) hs hown ad len cap (sv ms) hx (by simp [sv, hb.1]) ?_ ?_
      (by unfold maxLen; omega) (by omega) hbase ?_
    · intro j u hu
      have hj : j < ms.length := by have := (List.getElem?_eq_some_iff.1 hu).1; simpa [sv] using this
      obtain ⟨b, off, had, hc⟩ := hb.2.2.2 (by have := hb.1; omega)
      cases had
      obtain ⟨y, hy⟩ : ∃ y, ms[j]? = some y := ⟨_, List.getElem?_eq_getElem hj⟩
      rw [add_plain, hc j y hy]
      simp only [sv, List.getElem?_map, hy, Option.map_some] at hu
      exact hu
    · intro u hu
      obtain ⟨y, _, rfl⟩ := List.mem_map.1 hu
      rfl
    intro v' w' h1 h2 _
    refine h v' w' ?_ h2 hbk
    unfold OwnS
    rw [List.length_append, hb.1, show sv (zs ++ ms) = sv zs ++ sv ms from by simp [sv]]
    exact h1
theorem rws_tt {w : World} {q p : Nat} {S K T V X : Int} (hw : It.wf ⟨S, K, T, V, X⟩) (hq : w.heap[q]? = some (.cells #[.slice (some ⟨p, 0, none⟩) 1 1] 25)) (hp : w.heap[p]? = some (.cells #[.int .i64 S, .int .i64 K, .int .u64 T, .int .u64 V, .int .i64 X] 36)) : Rws w (some ⟨q, 0, none⟩) 1 1 [⟨some ⟨p, 0, none⟩, 1, 1, [⟨S, K, T, V, X⟩]⟩] := by
  refine ⟨rfl, ⟨Nat.le_refl _, fun h => by cases h⟩, fun z hz => ?_, fun _ => ⟨q, 0, rfl, fun i z hi => ?_⟩⟩
  · rw [List.mem_singleton.1 hz]; exact ⟨is_block hw hp, by show 1 ≤ _; omega⟩
  · cases i with
    | zero => simp at hi; subst hi; simp [World.cell?, hq]
    | succ i => simp at hi
theorem tt_keep {w w' : World} {base p : Nat} {v : Value} {zs : List Sl} {S K T V X : Int} (hp : w.heap[p]? = some (.cells #[.int .i64 S, .int .i64 K, .int .u64 T, .int .u64 V, .int .i64 X] 36)) (ho : OwnS w base v zs) (hg : w.grownBy w' v.ownBlock) : w'.heap[p]? = some (.cells #[.int .i64 S, .int .i64 K, .int .u64 T, .int .u64 V, .int .i64 X] 36) := by
  refine hpG hg hp fun e => ?_
  obtain ⟨hl, ⟨rfl, hn⟩ | ⟨g, cap, cur, rfl, hg', hh, _⟩⟩ := ho
  · cases e
  · simp only [Value.ownBlock, Option.some.injEq] at e
    subst e
    rw [hp] at hh
    injection hh with hh
    injection hh with _ h2
    exact absurd h2 (by decide)
theorem after1 {W w4 : World} {g p : Nat} {o : Obj} (hg : W.grownBy w4 (Value.slice (some ⟨g, 0, none⟩) 0 0).ownBlock) (h : W.heap[p]? = some o) (hne : p ≠ g) : w4.heap[p]? = some o := hpG hg h (by simp only [Value.ownBlock, ne_eq, Option.some.injEq]; exact hne)
theorem step_append_tt {w : World} {ops : Array Oper} {o : Oper} {a : Act} {K0 : Act → World → Prop} {Q : Exit → Act → World → Prop} {E : Prop} (d : Option Nat) (hd : o.dst = d) (hgd : o.guard = none) (s x : Operand)
    (ho : o.op = .call { callee := .builtin .append, args := #[s, x], argTypes := #[22, 22] })
    (base : Nat) (v : Value) (zs : List Sl) (hs : a.eval s = v) (hown : OwnS w base v zs) (q p : Nat) {S K T V X : Int} (hw : It.wf ⟨S, K, T, V, X⟩) (hx : a.eval x = .slice (some ⟨q, 0, none⟩) 1 1)
    (hq : w.heap[q]? = some (.cells #[.slice (some ⟨p, 0, none⟩) 1 1] 25)) (hp : w.heap[p]? = some (.cells #[.int .i64 S, .int .i64 K, .int .u64 T, .int .u64 V, .int .i64 X] 36))
    (hlen : zs.length + 1 ≤ 1000) (hbase : base ≤ w.heap.size)
    (h : ∀ v' w', OwnS w' base v' (zs ++ [⟨some ⟨p, 0, none⟩, 1, 1, [⟨S, K, T, V, X⟩]⟩]) → w.grownBy w' v.ownBlock → (∀ k, v.ownBlock = some k → base ≤ k) → w'.heap[p]? = some (.cells #[.int .i64 S, .int .i64 K, .int .u64 T, .int .u64 V, .int .i64 X] 36) → K0 (a.put d v') w') :
    if Region.wanted o (yielded ops a.tmps) = true then Oper.wp Try.prog o a w K0 Q else E :=
  step_append_rows d hd hgd s x ho base v zs hs hown _ 1 1 _ hx (rws_tt hw hq hp) hlen hbase fun v' w' h1 h2 h3 => h v' w' h1 h2 h3 (tt_keep hp hown h2)

end Go.Proofs.Ytkkcchklefcljaa.Clep
