/- A delete more: what is told of the rest is what was told, but for what the delete hides. No conditions. -/
import Derived.Test.YtkkcchklefcljaaVRowsWalk
namespace Go.Proofs.Ytkkcchklefcljaa.Clep
open Go.RowKit
set_option linter.unusedVariables false
set_option maxRecDepth 10000

/-- Is x of what was told without t told with it, too? -/
def hpB (t x : It) : Bool := !(x.S == t.S && (x.K == 1 || decide (x.V ≤ t.V)))
/-- Is y no delete of t's series? -/
def hqB (t y : It) : Bool := !(y.K == 1 && y.S == t.S)
theorem hpB_iff {t x : It} : hpB t x = true ↔ ¬ (x.S = t.S ∧ (x.K = 1 ∨ x.V ≤ t.V)) := by simp [hpB]; omega
theorem hqB_iff {t y : It} : hqB t y = true ↔ ¬ (y.K = 1 ∧ y.S = t.S) := by simp [hqB]; omega
theorem hides_mem {F : List It} {t : It} (ht : t.ok = true) (hk : t.K = 1) (x : It) : (x ∈ ofL F ∧ hpB t x = true) ↔ (x ∈ ofL (F ++ [t]) ∧ hqB t x = true) := by
  have sN := ofL_sta F
  have sW := ofL_sta (F ++ [t])
  constructor
  · rintro ⟨hx, hp⟩
    rw [hpB_iff] at hp
    obtain ⟨hxF, hxo⟩ := sN.2.1 x hx
    refine ⟨?_, by rw [hqB_iff]; omega⟩
    obtain ⟨y, hy, hd⟩ := sW.2.2.2 x ⟨by simp [hxF], hxo⟩
    obtain ⟨hyF, hyo⟩ := sW.2.1 y hy
    rcases List.mem_append.1 hyF with e | e
    · obtain ⟨z, hz, hd2⟩ := sN.2.2.2 y ⟨e, hyo⟩
      have e1 := sta_dom sN hx hz (dom_trans hd2 hd)
      subst e1
      rw [dom_anti hd2 hd]
      exact hy
    · rw [List.mem_singleton.1 e] at hd
      rw [dom_iff] at hd
      omega
  · rintro ⟨hx, hq⟩
    rw [hqB_iff] at hq
    obtain ⟨hxF, hxo⟩ := sW.2.1 x hx
    have hxF' : x ∈ F := by
      rcases List.mem_append.1 hxF with e | e
      · exact e
      · rw [List.mem_singleton.1 e] at hq
        exact absurd ⟨hk, rfl⟩ hq
    refine ⟨?_, ?_⟩
    · obtain ⟨z, hz, hd⟩ := sN.2.2.2 x ⟨hxF', hxo⟩
      obtain ⟨hzF, hzo⟩ := sN.2.1 z hz
      obtain ⟨y, hy, hd2⟩ := sW.2.2.2 z ⟨by simp [hzF], hzo⟩
      have e1 := sta_dom sW hx hy (dom_trans hd2 hd)
      subst e1
      rw [dom_anti hd2 hd]
      exact hz
    · rw [hpB_iff]
      intro h
      obtain ⟨y, hy, hd⟩ := sW.2.2.2 t ⟨by simp, ht⟩
      have hh := sW.2.2.1 y hy x hx
      rw [nhides_iff] at hh
      rw [dom_iff] at hd
      rw [ok_iff] at hxo
      omega
theorem hides_filter {F : List It} {t : It} (ht : t.ok = true) (hk : t.K = 1) : (ofL (F ++ [t])).filter (hqB t) = (ofL F).filter (hpB t) := by
  refine rise_ext (List.Pairwise.filter _ (ofL_sta _).1) (List.Pairwise.filter _ (ofL_sta _).1) fun x => ?_
  rw [List.mem_filter, List.mem_filter]
  exact (hides_mem ht hk x).symm
theorem one_tomb {t : It} : ∀ (l : List It), Rise l → (∀ x ∈ l, x.ok = true ∧ x.K = 1 ∧ x.S = t.S) → l.length ≤ 1
  | [], _, _ => by simp
  | [x], _, _ => by simp
  | x :: y :: l, hr, h => by
    have h1 := (List.pairwise_cons.1 (show List.Pairwise _ (x :: y :: l) from hr)).1 y (by simp)
    have hx := h x (by simp)
    have hy := h y (by simp)
    rw [ok_iff] at hx hy
    rw [less_iff] at h1
    omega
theorem hides_len {F : List It} {t : It} (ht : t.ok = true) (hk : t.K = 1) : (ofL (F ++ [t])).length ≤ (ofL F).length + 1 := by
  have h1 : ((ofL (F ++ [t])).filter (hqB t)).length ≤ (ofL F).length := by rw [hides_filter ht hk]; exact List.length_filter_le _ _
  have h2 : ((ofL (F ++ [t])).filter (fun x => !hqB t x)).length ≤ 1 := by
    refine one_tomb (t := t) _ (List.Pairwise.filter _ (ofL_sta _).1) fun x hx => ?_
    obtain ⟨hx1, hx2⟩ := List.mem_filter.1 hx
    have h3 : hqB t x = false := by simpa using hx2
    have h4 : x.K = 1 ∧ x.S = t.S := by
      unfold hqB at h3
      simpa using h3
    exact ⟨(ofL_ok _ x hx1).2, h4⟩
  have h3 := List.length_eq_countP_add_countP (hqB t) (l := ofL (F ++ [t]))
  rw [List.countP_eq_length_filter, List.countP_eq_length_filter] at h3
  have h4 : (fun a => decide ¬(hqB t a = true)) = fun x => !hqB t x := by
    funext x
    cases hqB t x <;> rfl
  rw [h4] at h3
  omega
theorem drop_f {q : It → Bool} {l : List It} {k : Nat} {x : It} (h : l[k]? = some x) : (l.drop k).filter q = (if q x then [x] else []) ++ (l.drop (k + 1)).filter q := by
  have hk := (List.getElem?_eq_some_iff.1 h).1
  rw [List.drop_eq_getElem_cons hk, (List.getElem?_eq_some_iff.1 h).2, List.filter_cons]
  cases q x <;> rfl

end Go.Proofs.Ytkkcchklefcljaa.Clep
