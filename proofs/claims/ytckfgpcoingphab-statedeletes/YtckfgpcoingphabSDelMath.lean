/- What a delete leaves: nothing of its series that is not above it; what is above it, and other series, stay. No conditions. -/
import Derived.Test.YtckfgpcoingphabSMath2
import Derived.Test.YtckfgpcoingphabSLaw
namespace Go.Proofs.Ytckfgpcoingphab.Clep
open Go.RowKit
set_option linter.unusedVariables false

theorem del_a (l : List It) (t : It) : ofL (saddL (ofL l) t ++ l) = ofL (l ++ [t]) := by
  have e : saddL (ofL l) t = ofL (l ++ [t]) := by unfold saddL; rw [if_pos (stB_iff.2 (ofL_stP l)), ofL_of]
  rw [e, ofL_of]
  exact ofL_congr (by intro z _; simp only [List.mem_append, List.mem_singleton]; exact ⟨fun h => by rcases h with (h | h) | h <;> simp [h], fun h => by rcases h with h | h <;> simp [h]⟩)
theorem del_b (l : List It) (t : It) : ofL (saddL [] t ++ l) = ofL (l ++ [t]) := by
  have e : saddL [] t = ofL [t] := by unfold saddL; rw [if_pos (stB_iff.2 ⟨by simp, by simp, by simp⟩)]; rfl
  rw [e, ofL_of]
  exact ofL_congr (by intro z _; simp only [List.mem_append, List.mem_singleton]; exact or_comm)
theorem del_top {l : List It} {t : It} (hK : t.K = 1) (ht : t.ok = true) : ∃ y ∈ ofL (l ++ [t]), y.K = 1 ∧ y.S = t.S ∧ y.T = t.T ∧ t.V ≤ y.V := by
  obtain ⟨y, hy, hd⟩ := (ofL_sta (l ++ [t])).2.2.2 t ⟨by simp, ht⟩
  rw [dom_iff] at hd
  exact ⟨y, hy, by omega, by omega, by omega, by omega⟩
theorem find_uniq {l : List It} {p : It → Bool} {y : It} (hy : y ∈ l) (hp : p y = true) (hu : ∀ z ∈ l, p z = true → z = y) : l.find? p = some y := by
  cases h : l.find? p with
  | none => rw [List.find?_eq_none] at h; exact absurd hp (h y hy)
  | some z => rw [hu z (List.mem_of_find?_eq_some h) (List.find?_some h)]
theorem del_tomb {l : List It} {t : It} (hK : t.K = 1) (ht : t.ok = true) : t.V ≤ tombL (ofL (l ++ [t])) t.S := by
  obtain ⟨y, hy, h1, h2, h3, h4⟩ := del_top (l := l) hK ht
  have hst := ofL_stP (l ++ [t])
  have e : (ofL (l ++ [t])).find? (tombP t.S) = some y := by
    refine find_uniq hy (by unfold tombP; simp [h1, h2]) fun z hz hp => ?_
    unfold tombP at hp
    simp at hp
    refine rise_same hst.1 hz hy ?_
    have a1 := hst.2.1 z hz
    have a2 := hst.2.1 y hy
    rw [ok_iff] at a1 a2
    rw [same_iff]; omega
  unfold tombL
  rw [e]; exact h4
theorem del_none {l : List It} {t z : It} (hK : t.K = 1) (ht : t.ok = true) (hz : z ∈ ofL (l ++ [t])) (h1 : z.S = t.S) (h2 : z.K = 2) : t.V < z.V := by
  obtain ⟨y, hy, g1, g2, g3, g4⟩ := del_top (l := l) hK ht
  have := (ofL_stP (l ++ [t])).2.2 y hy z hz
  rw [nhides_iff] at this
  omega
theorem del_stay {l : List It} {t z : It} (hK : t.K = 1) (hz : z ∈ ofL l) (h2 : z.K = 2) (h : z.S ≠ t.S ∨ t.V < z.V) : z ∈ ofL (l ++ [t]) := by
  have hzl := ofL_ok l z hz
  obtain ⟨y, hy, hd⟩ := (ofL_sta (l ++ [t])).2.2.2 z ⟨by simp [hzl.1], hzl.2⟩
  have hyl := ofL_ok _ y hy
  rcases List.mem_append.1 hyl.1 with h3 | h3
  · obtain ⟨u, hu, hd2⟩ := (ofL_sta l).2.2.2 y ⟨h3, hyl.2⟩
    have e := sta_dom (ofL_sta l) hz hu (dom_trans hd2 hd)
    subst e
    rw [dom_anti hd2 hd]; exact hy
  · rw [List.mem_singleton.1 h3, dom_iff] at hd
    exact absurd hd (by omega)
theorem get_mem {l : List It} {z : It} (h : Rise l) (hz : z ∈ l) (hK : z.K = 2) : getL l z.S z.T = some z := by
  unfold getL
  refine find_uniq hz (by unfold getP sampP; simp [hK]) fun y hy hp => ?_
  unfold getP sampP at hp
  simp at hp
  exact rise_same h hy hz (by rw [same_iff]; omega)

end Go.Proofs.Ytckfgpcoingphab.Clep
