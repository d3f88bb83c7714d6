/- MemKeeps: what a Mem is told, and what it tells, is no part of it, walked. Conditions: the table of math/bits reads as its initialiser lays it. -/
import Derived.Test.YtjpoahnecbefaaaDoorMItems
import Derived.Test.YtjpoahnecbefaaaDoorSLaw
namespace Go.Proofs.YtjpoahnecbefaaaDoor.Clep
open Go.RowKit
set_option linter.unusedVariables false

theorem mand8 (a : Int) : 0 ≤ bits .and .i64 a 255 ∧ bits .and .i64 a 255 ≤ 255 := by
  have e : bits .and .i64 a 255 = IntKind.i64.wrap ((BitVec.ofInt 64 a &&& BitVec.ofInt 64 255).toNat : Int) := rfl
  have hle : (BitVec.ofInt 64 a &&& BitVec.ofInt 64 255).toNat ≤ 255 := by
    rw [BitVec.toNat_and]; exact Nat.le_trans Nat.and_le_right (by decide)
  rw [e]
  generalize (BitVec.ofInt 64 a &&& BitVec.ofInt 64 255).toNat = k at *
  simp [IntKind.wrap, IntKind.bits, IntKind.signed]
  omega
theorem putAll_wf : ∀ (l : List It) (ws : List (It × Nat)), (∀ x ∈ l, x.wf) → (∀ x ∈ ws, x.1.wf) → ∀ x ∈ putAll l ws, x.1.wf
  | [], ws, _, h => h
  | x :: r, ws, hl, h => putAll_wf r _ (fun y hy => hl y (by simp [hy])) (fun y hy => by
    unfold putA at hy
    split at hy
    · have hm : y.1 ∈ ((putW x ((hgt x.S x.K x.T : Nat) : Int).toNat ws).2).map Prod.fst := List.mem_map_of_mem hy
      rw [putW_L] at hm
      rcases putL_mem x _ _ hm with e | e
      · rw [e]; exact hl x (by simp)
      · obtain ⟨z, hz, e⟩ := List.mem_map.1 e
        rw [← e]; exact h z hz
    · exact h y hy)
theorem putAll_pos {l : List It} (hl : 0 < l.length) (hok : l.all It.ok = true) : 0 < (putAll l []).length := by
  cases l with
  | nil => simp at hl
  | cons x r =>
    have hx : x.ok = true := List.all_eq_true.1 hok x (by simp)
    have h := hgt_le x.S x.K x.T
    have h1 : (putA x (hgt x.S x.K x.T : Nat) []).2.length = 1 := by
      unfold putA
      rw [if_pos ⟨hx, by omega, by omega⟩]
      rfl
    have := putAll_ge r (putA x (hgt x.S x.K x.T : Nat) []).2
    show 0 < (putAll r _).length
    omega

end Go.Proofs.YtjpoahnecbefaaaDoor.Clep
