/- How long states are; what the statements' awake of layer 6 does when called. No conditions. -/
import Derived.Test.YtckfgpcoingphabSOk
import Derived.Test.YtckfgpcoingphabSAsk
import Derived.Test.YtckfgpcoingphabSGet
import Derived.Test.YtckfgpcoingphabSEqual
namespace Go.Proofs.Ytckfgpcoingphab.Clep
open Go.RowKit
set_option linter.unusedVariables false

theorem addGo_len (x : It) : ∀ (l out : List It) (put : Bool) (q : List It), addGo x l out put = some q → q.length ≤ out.length + l.length + (if put then 0 else 1)
  | [], out, put, q, h => by
    simp only [addGo, Option.some.injEq] at h
    subst h
    cases put <;> simp
  | y :: r, out, put, q, h => by
    unfold addGo at h
    split at h
    · cases h
    · split at h
      · split at h
        · have := addGo_len x r out put q h
          simp only [List.length_cons]; omega
        · cases h
      · have := addGo_len x r _ _ q h
        simp only [List.length_cons]
        have h2 : (if x.hides y then ([] : List It) else [y]).length ≤ 1 := by split <;> simp
        rw [List.length_append] at this
        cases put with
        | true => simp at this ⊢; omega
        | false =>
          cases hb : x.less y with
          | true => simp [hb] at this ⊢; omega
          | false => simp [hb] at this ⊢; omega
theorem addL_len (l : List It) (x : It) : (addL l x).length ≤ l.length + 1 := by
  unfold addL
  cases hq : addGo x l [] false with
  | none => simp
  | some q => have := addGo_len x l [] false q hq; simpa using this
theorem fold_len : ∀ (b l : List It), (b.foldl addOk l).length ≤ l.length + b.length
  | [], l => by simp
  | x :: b, l => by
    rw [List.foldl_cons]
    have h1 := fold_len b (addOk l x)
    have h2 : (addOk l x).length ≤ l.length + 1 := by unfold addOk; split; exact addL_len l x; omega
    simp only [List.length_cons]; omega
theorem ofL_len (l : List It) : (ofL l).length ≤ l.length := by have := fold_len l []; simpa [ofL] using this
theorem ans_n {l : List It} {w : World} {e : Ending} {w' : World} (h : Ans l w e w') : ∃ a n c, e = .returned (.slice a n c) ∧ Is w' a n c l ∧ Below w.heap.size w w' := by
  obtain ⟨a, c, h1, h2, _, h4⟩ := h
  exact ⟨a, _, c, h1, h2, h4⟩
theorem is_two (w : World) (x y : It) (hx : x.wf) (hy : y.wf) : Is (w.alloc (Obj.cells #[.int .i64 x.S, .int .i64 x.K, .int .u64 x.T, .int .u64 x.V, .int .i64 x.X, .int .i64 y.S, .int .i64 y.K, .int .u64 y.T, .int .u64 y.V, .int .i64 y.X] 26)) (some ⟨w.heap.size, 0, none⟩) 2 2 [x, y] := by
  refine ⟨rfl, ⟨Nat.le_refl _, fun h => by cases h⟩, ?_, fun _ => ⟨w.heap.size, 0, rfl, fun i z hi => ?_⟩⟩
  · intro z hz
    simp only [List.mem_cons, List.not_mem_nil, or_false] at hz
    rcases hz with rfl | rfl
    · exact hx
    · exact hy
  · match i with
    | 0 => simp at hi; subst hi; unfold Vt Vi; simp [go_sem]
    | 1 => simp at hi; subst hi; unfold Vt Vi; simp [go_sem]
    | i + 2 => simp at hi

set_option maxHeartbeats 1000000 in
theorem awake6_any (w : World) : Calls Try.prog 6 #[] w fun e w' => e = .returned (.bool true) ∧ Below w.heap.size w w' := by
  have I0 := is_two w ⟨3, 2, 0, 4, 0⟩ ⟨3, 1, 0, 5, 0⟩ (by unfold It.wf; simp) (by unfold It.wf; simp)
  have hof := hide (of_any _ 2 2 _ _ I0 (by omega))
  have hB0 := hide ((Below.refl _ w).alloc (Nat.le_refl _) (Obj.cells #[.int .i64 3, .int .i64 2, .int .u64 0, .int .u64 4, .int .i64 0, .int .i64 3, .int .i64 1, .int .u64 0, .int .u64 5, .int .i64 0] 26))
  clear I0
  rw [show ofL [⟨3, 2, 0, 4, 0⟩, ⟨3, 1, 0, 5, 0⟩] = [⟨3, 1, 0, 5, 0⟩] from by kernel_rfl] at hof
  go_enter Try.func6, Try.ntmps6
  go_wp2_with fail
  refine hof.out.mono ?_
  intro e w1 hans
  obtain ⟨a1, n1, c1, rfl, i1, b1⟩ := ans_n hans
  obtain rfl : 1 = n1 := i1.1
  obtain ⟨b, off, e1, hc⟩ := i1.2.2.2 (by omega)
  subst e1
  have I1 := hide i1
  have hv := hc 0 _ rfl
  unfold Vt Vi at hv
  simp only [Nat.zero_mul, Nat.add_zero] at hv
  obtain ⟨v0, v1, v2, v3, v4⟩ := hv
  have HB1 := hide (bmore hB0.out b1)
  clear hans i1 hc hof hB0 b1
  go_wp2_with fail
  refine (sok_any _ 1 c1 _ w1 I1.out (by omega)).mono ?_
  rw [show stB [⟨3, 1, 0, 5, 0⟩] = true from by kernel_rfl]
  rintro e w2 ⟨rfl, b2⟩
  replace I1 := hide (I1.out.below b2 (Nat.le_refl _))
  have HB2 := hide (bmore HB1.out b2)
  clear v0 v1 v2 v3 v4 HB1 b2
  go_wp2_with fail
  refine (top_any _ 1 c1 _ w2 I1.out (by omega)).mono ?_
  rw [show topL [⟨3, 1, 0, 5, 0⟩] = 5 from by kernel_rfl]
  rintro e w3 ⟨rfl, b3⟩
  have HB3 := hide (bmore HB2.out b3)
  clear b3
  go_wp2
  go_ret
  exact ⟨rfl, HB3.out⟩

end Go.Proofs.Ytckfgpcoingphab.Clep
