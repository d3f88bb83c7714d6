/- Of files no number of which is there twice, without answers what the document's own drops do. No conditions. -/
import Derived.Test.YtgopcaemgcnapaaEWo
namespace Go.Proofs.Ytgopcaemgcnapaa.Clep
open Go.RowKit
set_option linter.unusedVariables false
set_option maxRecDepth 10000

def but (l : List Fi) (z : Int) : List Fi := l.filter (fun f => !(f.N == z))
theorem but_none : ∀ (l : List Fi) (z : Int), l.all (fun g => !(g.N == z)) = true → but l z = l
  | [], z, h => rfl
  | f :: r, z, h => by
    rw [List.all_cons, Bool.and_eq_true] at h
    unfold but
    rw [List.filter_cons, if_pos h.1]
    exact congrArg (f :: ·) (but_none r z h.2)
theorem wo_but : ∀ (l : List Fi) (z : Int), once l = true → hasN l z = true → wo l (atN l z) = but l z
  | [], z, h, hh => by cases hh
  | f :: r, z, h, hh => by
    unfold once at h
    rw [Bool.and_eq_true] at h
    by_cases e : f.N = z
    · have e1 : (f.N == z) = true := by simpa using e
      have : atN (f :: r) z = 0 := by unfold atN; rw [List.findIdx_cons, e1]; rfl
      rw [this]
      unfold but
      rw [List.filter_cons, if_neg (by rw [e1]; simp)]
      show ([] ++ r) = _
      rw [List.nil_append]
      exact (but_none r z (by rw [← e]; exact h.1)).symm
    · have e1 : (f.N == z) = false := by simpa using e
      have : atN (f :: r) z = atN r z + 1 := by unfold atN; rw [List.findIdx_cons, e1]; rfl
      rw [this]
      have hh' : hasN r z = true := by
        unfold hasN at hh ⊢
        rw [List.any_cons, e1, Bool.false_or] at hh
        exact hh
      unfold but
      rw [List.filter_cons, if_pos (by rw [e1]; rfl)]
      show f :: wo r (atN r z) = _
      rw [wo_but r z h.2 hh']
      rfl
theorem atN_not (l : List Fi) (z : Int) : atN l z = l.length ↔ hasN l z = false := by
  unfold atN hasN
  rw [List.findIdx_eq_length, List.any_eq_false]
  simp
theorem once_but : ∀ (l : List Fi) (z : Int), once l = true → once (but l z) = true
  | [], z, h => rfl
  | f :: r, z, h => by
    unfold once at h
    rw [Bool.and_eq_true] at h
    have ih := once_but r z h.2
    unfold but
    rw [List.filter_cons]
    split
    · unfold once
      rw [Bool.and_eq_true]
      refine ⟨List.all_eq_true.2 fun g hg => List.all_eq_true.1 h.1 g ((List.mem_filter.1 hg).1), ih⟩
    · exact ih
theorem hasN_but (l : List Fi) (z y : Int) : hasN (but l z) y = (hasN l y && !(y == z)) := by
  unfold hasN but
  induction l with
  | nil => rfl
  | cons f r ih =>
    rw [List.filter_cons]
    by_cases e : f.N = z
    · rw [if_neg (by simp [e]), ih, List.any_cons]
      by_cases e2 : y = z
      · subst e2; simp
      · rw [show (f.N == y) = false from by simp [e]; exact fun h => e2 h.symm, Bool.false_or]
    · rw [if_pos (by simp [e]), List.any_cons, List.any_cons, ih]
      by_cases e2 : f.N = y
      · subst e2; simp [e]
      · rw [show (f.N == y) = false from by simpa using e2]; simp
theorem stay_but (l : List Fi) (z : Int) (r : List Int) : stay (but l z) r = stay l (z :: r) := by
  unfold stay but
  rw [List.filter_filter]
  refine List.filter_congr fun f hf => ?_
  rw [List.contains_cons]
  cases h1 : r.contains f.N <;> cases h2 : (f.N == z) <;> rfl
theorem wout_dropN : ∀ (d : List Int) (l : List Fi), once l = true → wout l d = dropN l d
  | [], l, h => by
    unfold wout dropN stay
    simp [ndp]
  | z :: r, l, h => by
    unfold dropN
    cases hh : hasN l z with
    | false =>
      rw [if_pos ((atN_not l z).2 hh)]
      unfold wout
      rw [if_neg]
      rw [List.all_cons, hh]
      simp
    | true =>
      rw [if_neg (fun e => by rw [(atN_not l z).1 e] at hh; cases hh), wo_but l z h hh, ← wout_dropN r (but l z) (once_but l z h)]
      unfold wout
      rw [stay_but]
      have key : (ndp (z :: r) && (z :: r).all (hasN l)) = (ndp r && r.all (hasN (but l z))) := by
        rw [List.all_cons, hh, Bool.true_and]
        show ((!(r.contains z) && ndp r) && r.all (hasN l)) = _
        have hall : r.all (hasN (but l z)) = (r.all (hasN l) && !(r.contains z)) := by
          rw [Bool.eq_iff_iff, Bool.and_eq_true, List.all_eq_true, List.all_eq_true, Bool.not_eq_true', ← Bool.not_eq_true, List.contains_iff_mem]
          constructor
          · intro h1
            refine ⟨fun y hy => ?_, fun hz => ?_⟩
            · have := h1 y hy; rw [hasN_but, Bool.and_eq_true] at this; exact this.1
            · have := h1 z hz; rw [hasN_but] at this; simp at this
          · rintro ⟨h1, h2⟩ y hy
            rw [hasN_but, h1 y hy, Bool.true_and]
            have : ¬ y = z := fun e => h2 (e ▸ hy)
            simpa using this
        rw [hall]
        cases r.contains z <;> cases ndp r <;> cases r.all (hasN l) <;> rfl
      rw [key]

end Go.Proofs.Ytgopcaemgcnapaa.Clep
