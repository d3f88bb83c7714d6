/- Rows of rows of bytes that came in, as the walks want them. No conditions. -/
import Derived.Test.YtjphnflahpcaiaaBBss
import Derived.Deep.Matrix
namespace Go.Proofs.Ytjphnflahpcaiaa.Clep
open Go.RowKit
set_option linter.unusedVariables false

theorem bss_nil (w : World) : Bss w none 0 0 [] := ⟨rfl, ⟨Nat.le_refl _, fun _ => ⟨rfl, rfl⟩⟩, fun h => by omega⟩
theorem bss_of_rows {w : World} {base : Nat} {x : Addr} {l c : Nat} {A : Nat → Option Addr} {L C : Nat → Nat} {Z : Nat → List Int} (hl : l ≤ c) (hm : c ≤ maxLen)
    (hcell : ∀ r, r < c → w.cell? (x.add r) = some (.slice (A r) (L r) (C r)) ∧ L r ≤ C r ∧ C r ≤ maxLen ∧ (Z r).length = C r ∧ (∀ n ∈ Z r, (Lit.int .u8 n).wf = true) ∧ (A r = none → C r = 0) ∧
      ∀ a', A r = some a' → base ≤ a'.block ∧ ∀ k, k < C r → w.cell? (a'.add k) = some (.int .u8 ((Z r).getD k 0))) :
    ∃ zss, Bss w (some x) l c zss ∧ l ≤ 9223372036854775807 := by
  have hrow : ∀ r, r < c → Bs w (A r) (L r) (C r) ((Z r).take (L r)) ∧ L r ≤ 9223372036854775807 := by
    intro r hr
    obtain ⟨_, h1, h2, h3, h4, h5, h6⟩ := hcell r hr
    apply bs_of_row
    cases hA : A r with
    | none =>
      have := h5 hA
      exact .inl ⟨rfl, by omega, this, List.eq_nil_of_length_eq_zero (by omega)⟩
    | some a' => exact .inr ⟨a', rfl, h1, h2, h3, fun i hi => (h6 a' hA).2 i (by omega), h4⟩
  refine ⟨(List.range l).map fun r => (Z r).take (L r), ⟨by simp, ⟨hl, fun h => by cases h⟩, fun h0 => ?_⟩, by unfold maxLen at hm; omega⟩
  obtain ⟨b, off, p⟩ := x
  have hp : p = none := by simpa [Addr.add] using World.cell?_spot (hcell 0 (by omega)).1
  subst hp
  refine ⟨b, off, rfl, fun i hi => ?_⟩
  obtain ⟨h1, _⟩ := hcell i (by omega)
  rw [add_plain] at h1
  obtain ⟨h2, h3⟩ := hrow i (by omega)
  refine ⟨A i, L i, C i, h1, h3, ?_⟩
  have : ((List.range l).map fun r => (Z r).take (L r)).getD i [] = (Z i).take (L i) := by
    simp [List.getD, hi]
  rw [this]
  exact h2

end Go.Proofs.Ytjphnflahpcaiaa.Clep
