/- What the statements' own function one does when called, and the document's own Rows of that. Conditions: at most 2^47 bytes of items. -/
import Derived.Test.YtkkcchklefcljaaOCutI
import Derived.Laws.AppendOwn
namespace Go.Proofs.Ytkkcchklefcljaa.Clep
open Go.RowKit
set_option linter.unusedVariables false

theorem filter_take (l : List It) (k : Nat) (x : It) (h : l[k]? = some x) : ((l.take (k + 1)).filter It.ok).map (fun x => [x]) = ((l.take k).filter It.ok).map (fun x => [x]) ++ (if x.ok then [[x]] else []) := by
  rw [List.take_add_one, h, List.filter_append, List.map_append]
  cases hx : x.ok <;> simp [hx]
theorem is_at {w : World} {a : Option Addr} {len cap k : Nat} {l : List It} {x : It} (h : Is w a len cap l) (hk : k < len) (hx : l[k]? = some x) : Is w (icut a cap k) 1 (cap - k) [x] := by
  have := h.cut k (k + 1) (by omega) (by omega)
  rw [show k + 1 - k = 1 by omega] at this
  rwa [show (l.take (k + 1)).drop k = [x] by
    rw [List.take_add_one, hx, List.drop_append]
    have hl : (l.take k).length = k := by rw [List.length_take, h.1]; omega
    rw [List.drop_of_length_le (by omega), hl]; simp] at this
theorem cell_newS (w : World) (v : Value) (T : TypeId) : ∀ j u, [v][j]? = some u → (w.alloc (.cells #[v] T)).cell? ((⟨w.heap.size, 0, none⟩ : Addr).add j) = some u := by
  intro j u hu
  cases j with
  | zero =>
    simp only [List.getElem?_cons_zero, Option.some.injEq] at hu
    subst hu
    rw [add_plain, World.cell?_alloc_at _ _ _ _ (by simp)]; rfl
  | succ j => simp at hu
/-- Rows of one. -/
theorem q_any (v : Value) (zs : List Sl) (l : List It) (B : Nat) (w : World) (hB : B ≤ w.heap.size) (ho : OwnS w B v zs) (hz : ∀ z ∈ zs, Is w z.a z.n z.c z.l ∧ z.n ≤ 9223372036854775807) (hm : zs.map Sl.l = (l.filter It.ok).map (fun x => [x])) (hn : l.length ≤ 3518437208880) :
    Calls Try.prog 11 #[v] w (AnsO (qL l) w) := by
  obtain ⟨a, c, rfl, hr, hc⟩ := ownS_rws ho hz
  rw [← rows_q zs l hm]
  refine refrows_any a zs.length c zs w hr (Nat.le_trans hr.2.1.1 hc) ?_
  rw [sum_q zs _ hm]
  exact Nat.le_trans (List.length_filter_le _ _) hn

end Go.Proofs.Ytkkcchklefcljaa.Clep
