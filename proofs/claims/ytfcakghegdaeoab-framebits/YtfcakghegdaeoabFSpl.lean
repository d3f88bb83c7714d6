/- What a row of bytes says, frame behind frame, up to the first that is none. -/
import Derived.Test.YtfcakghegdaeoabFMath
namespace Go.Proofs.Ytfcakghegdaeoab.Clep
open Go.RowKit
set_option linter.unusedVariables false

/-- Frames from the front on, at most f of them: kinds and bodies, where the last ends, why. -/
def sp : Nat → List Int → List (Int × List Int) × Nat × Int
  | 0, _ => ([], 0, 0)
  | f + 1, X => if X = [] then ([], 0, 0) else if ce X = 0 then
      ((kd X, bo X) :: (sp f (X.drop ((ln X).toNat + 12))).1, (ln X).toNat + 12 + (sp f (X.drop ((ln X).toNat + 12))).2.1, (sp f (X.drop ((ln X).toNat + 12))).2.2)
    else ([], 0, ce X)
def SP (X : List Int) : List (Int × List Int) × Nat × Int := sp X.length X

theorem sp_succ (f : Nat) (X : List Int) : sp (f + 1) X = if X = [] then ([], 0, 0) else if ce X = 0 then
      ((kd X, bo X) :: (sp f (X.drop ((ln X).toNat + 12))).1, (ln X).toNat + 12 + (sp f (X.drop ((ln X).toNat + 12))).2.1, (sp f (X.drop ((ln X).toNat + 12))).2.2)
    else ([], 0, ce X) := rfl
theorem sp_fuel : ∀ (f g : Nat) (X : List Int), X.length ≤ f → X.length ≤ g → sp f X = sp g X
  | 0, 0, _, _, _ => rfl
  | 0, g + 1, X, hf, _ => by
    have : X = [] := List.eq_nil_of_length_eq_zero (by omega)
    subst this; simp [sp]
  | f + 1, 0, X, _, hg => by
    have : X = [] := List.eq_nil_of_length_eq_zero (by omega)
    subst this; simp [sp]
  | f + 1, g + 1, X, hf, hg => by
    have ih : X ≠ [] → sp f (X.drop ((ln X).toNat + 12)) = sp g (X.drop ((ln X).toNat + 12)) := fun hx => by
      have : 0 < X.length := List.length_pos_iff.2 hx
      exact sp_fuel f g _ (by rw [List.length_drop]; omega) (by rw [List.length_drop]; omega)
    rw [sp_succ, sp_succ]
    split
    · rfl
    · rename_i hx
      rw [ih hx]
theorem SP_nil : SP [] = ([], 0, 0) := rfl
theorem SP_bad (X : List Int) (hx : X ≠ []) (hc : ce X ≠ 0) : SP X = ([], 0, ce X) := by
  unfold SP
  obtain ⟨f, hf⟩ : ∃ f, X.length = f + 1 := ⟨X.length - 1, by have := List.length_pos_iff.2 hx; omega⟩
  rw [hf, sp_succ, if_neg hx, if_neg hc]
theorem SP_good (X : List Int) (hc : ce X = 0) : SP X = ((kd X, bo X) :: (SP (X.drop ((ln X).toNat + 12))).1, (ln X).toNat + 12 + (SP (X.drop ((ln X).toNat + 12))).2.1, (SP (X.drop ((ln X).toNat + 12))).2.2) := by
  have hk := ce_ok X hc
  have hx : X ≠ [] := fun h => by subst h; simp at hk
  obtain ⟨f, hf⟩ : ∃ f, X.length = f + 1 := ⟨X.length - 1, by omega⟩
  have e : SP (X.drop ((ln X).toNat + 12)) = sp f (X.drop ((ln X).toNat + 12)) := sp_fuel _ f _ (Nat.le_refl _) (by rw [List.length_drop]; omega)
  rw [e]
  unfold SP
  rw [hf, sp_succ, if_neg hx, if_pos hc]
theorem SP_front (k : Int) (ys r : List Int) (hk : 1 ≤ k) (hk2 : k ≤ 100) (hn : ys.length ≤ 60000) (hy : ByteL ys) :
    SP (fr k ys ++ r) = ((k, ys) :: (SP r).1, ys.length + 12 + (SP r).2.1, (SP r).2.2) := by
  rw [SP_good _ (fr_ce k ys r hk hk2 hn hy), fr_kd, fr_bo k ys r hn, fr_ln k ys r hn, Int.toNat_natCast, drop_app (fr k ys) r _ (fr_len k ys)]

/-- Behind j frames the place is P. -/
def At (zs : List Int) (j P : Nat) : Prop := P ≤ zs.length ∧ j ≤ P ∧ (SP zs).1.drop j = (SP (zs.drop P)).1 ∧ j ≤ (SP zs).1.length ∧ (SP zs).2.1 = P + (SP (zs.drop P)).2.1 ∧ (SP zs).2.2 = (SP (zs.drop P)).2.2
theorem At.start (zs : List Int) : At zs 0 0 := ⟨by omega, by omega, by simp, by omega, by simp, by simp⟩
theorem At.end {zs : List Int} {j P : Nat} (h : At zs j P) (hP : P = zs.length) : (SP zs).1.length = j ∧ (SP zs).2.1 = P ∧ (SP zs).2.2 = 0 := by
  obtain ⟨_, _, h1, h2, h3, h4⟩ := h
  rw [hP, List.drop_length, SP_nil] at h1 h3 h4
  have := List.drop_eq_nil_iff.1 h1
  exact ⟨by omega, by rw [h3, hP]; rfl, h4⟩
theorem At.stop {zs : List Int} {j P : Nat} (h : At zs j P) (hP : P < zs.length) (hc : ce (zs.drop P) ≠ 0) : (SP zs).1.length = j ∧ (SP zs).2.1 = P ∧ (SP zs).2.2 = ce (zs.drop P) := by
  obtain ⟨_, _, h1, h2, h3, h4⟩ := h
  have hx : zs.drop P ≠ [] := fun h => by have := List.drop_eq_nil_iff.1 h; omega
  rw [SP_bad _ hx hc] at h1 h3 h4
  have := List.drop_eq_nil_iff.1 h1
  exact ⟨by omega, by rw [h3]; rfl, h4⟩
theorem At.step {zs : List Int} {j P : Nat} (h : At zs j P) (hc : ce (zs.drop P) = 0) : At zs (j + 1) (P + ((ln (zs.drop P)).toNat + 12)) ∧ j < (SP zs).1.length ∧ (SP zs).1.getD j (0, []) = (kd (zs.drop P), bo (zs.drop P)) := by
  obtain ⟨hP, hj, h1, h2, h3, h4⟩ := h
  have hk := ce_ok _ hc
  rw [List.length_drop] at hk
  rw [SP_good _ hc, List.drop_drop] at h1 h3 h4
  have hlt : j < (SP zs).1.length := by
    rcases Nat.lt_or_ge j (SP zs).1.length with h | h
    · exact h
    · rw [List.drop_eq_nil_of_le h] at h1; cases h1
  rw [List.drop_eq_getElem_cons hlt] at h1
  injection h1 with h5 h6
  refine ⟨⟨by omega, by omega, h6, by omega, by rw [h3]; simp only []; omega, h4⟩, hlt, ?_⟩
  rw [List.getD, List.getElem?_eq_getElem hlt, Option.getD_some, h5]
theorem At.more {zs : List Int} {j P : Nat} (h : At zs j P) (hj : j < (SP zs).1.length) : ce (zs.drop P) = 0 := by
  rcases Classical.em (ce (zs.drop P) = 0) with h0 | h0
  · exact h0
  · have hP := h.1
    rcases Nat.lt_or_ge P zs.length with hl | hl
    · have := (h.stop hl h0).1; omega
    · have := (h.end (by omega)).1; omega

end Go.Proofs.Ytfcakghegdaeoab.Clep
