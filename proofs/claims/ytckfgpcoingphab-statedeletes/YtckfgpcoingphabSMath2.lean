/- States of few items: a sample and a delete of its series. Numbers without their upper bits. No conditions. -/
import Derived.Test.YtckfgpcoingphabSAwake
namespace Go.Proofs.Ytckfgpcoingphab.Clep
open Go.RowKit
set_option linter.unusedVariables false

theorem ofL_tomb_hid {x t : It} (hx : x.ok = true) (ht : t.ok = true) (h : t.hides x = true) (l : List It) (hl : ∀ z, z ∈ l ↔ z = x ∨ z = t) : ofL l = [t] := by
  refine (ofL_uniq ⟨by simp, ?_, ?_, ?_⟩).symm
  · intro z hz; rw [List.mem_singleton.1 hz]; exact ⟨(hl t).2 (.inr rfl), ht⟩
  · intro a ha b hb; rw [List.mem_singleton.1 ha, List.mem_singleton.1 hb, nhides_iff]; omega
  · rintro z ⟨hz, _⟩
    refine ⟨t, by simp, ?_⟩
    rcases (hl z).1 hz with rfl | rfl
    · exact .inr h
    · exact dom_refl _
theorem ofL_tomb_free {x t : It} (hx : x.ok = true) (ht : t.ok = true) (hK : x.K = 2) (hK' : t.K = 1) (hS : t.S = x.S) (h : t.hides x = false) (l : List It) (hl : ∀ z, z ∈ l ↔ z = x ∨ z = t) : ofL l = [t, x] := by
  have hlt : t.less x = true := by rw [less_iff]; omega
  refine (ofL_uniq ⟨by simpa using hlt, ?_, ?_, ?_⟩).symm
  · intro z hz
    simp only [List.mem_cons, List.not_mem_nil, or_false] at hz
    rcases hz with rfl | rfl
    · exact ⟨(hl _).2 (.inr rfl), ht⟩
    · exact ⟨(hl _).2 (.inl rfl), hx⟩
  · intro a ha b hb
    simp only [List.mem_cons, List.not_mem_nil, or_false] at ha hb
    rcases ha with rfl | rfl <;> rcases hb with rfl | rfl
    · rw [nhides_iff]; omega
    · exact h
    · rw [nhides_iff]; omega
    · rw [nhides_iff]; omega
  · rintro z ⟨hz, _⟩
    rcases (hl z).1 hz with rfl | rfl
    · exact ⟨_, by simp, dom_refl _⟩
    · exact ⟨_, by simp, dom_refl _⟩
theorem ofL_one {x : It} (hx : x.ok = true) (l : List It) (hl : ∀ z, z ∈ l ↔ z = x) : ofL l = [x] := by
  refine (ofL_uniq ⟨by simp, ?_, ?_, ?_⟩).symm
  · intro z hz; rw [List.mem_singleton.1 hz]; exact ⟨(hl x).2 rfl, hx⟩
  · intro a ha b hb; rw [List.mem_singleton.1 ha, List.mem_singleton.1 hb, nhides_iff]; omega
  · rintro z ⟨hz, _⟩
    rw [(hl z).1 hz]
    exact ⟨x, by simp, dom_refl _⟩
theorem and48 (a : Int) : 0 ≤ bits .and .u64 a 281474976710655 ∧ bits .and .u64 a 281474976710655 ≤ 281474976710655 := by
  have e : bits .and .u64 a 281474976710655 = IntKind.u64.wrap ((BitVec.ofInt 64 a &&& BitVec.ofInt 64 281474976710655).toNat : Int) := rfl
  have hle : (BitVec.ofInt 64 a &&& BitVec.ofInt 64 281474976710655).toNat ≤ 281474976710655 := by
    rw [BitVec.toNat_and]; exact Nat.le_trans Nat.and_le_right (by decide)
  rw [e]
  generalize (BitVec.ofInt 64 a &&& BitVec.ofInt 64 281474976710655).toNat = k at *
  simp [IntKind.wrap, IntKind.bits, IntKind.signed]
  omega
theorem and8 (a : Int) : 0 ≤ bits .and .i64 a 255 ∧ bits .and .i64 a 255 ≤ 255 := by
  have e : bits .and .i64 a 255 = IntKind.i64.wrap ((BitVec.ofInt 64 a &&& BitVec.ofInt 64 255).toNat : Int) := rfl
  have hle : (BitVec.ofInt 64 a &&& BitVec.ofInt 64 255).toNat ≤ 255 := by
    rw [BitVec.toNat_and]; exact Nat.le_trans Nat.and_le_right (by decide)
  rw [e]
  generalize (BitVec.ofInt 64 a &&& BitVec.ofInt 64 255).toNat = k at *
  simp [IntKind.wrap, IntKind.bits, IntKind.signed]
  omega

end Go.Proofs.Ytckfgpcoingphab.Clep
