/- The statement NumSigns, called at any two whole numbers, answers true, in new memory alone. No conditions. -/
import Derived.Test.YtonfnpcgjcicdabAwake
namespace Go.Proofs.Ytonfnpcgjcicdab.Clep
open Go.RowKit
set_option linter.unusedVariables false

theorem tmod_bd (a : Int) : -4611686018427387904 < a.tmod 4611686018427387904 ∧ a.tmod 4611686018427387904 < 4611686018427387904 := by
  rcases Int.le_total 0 a with h | h
  · rw [Int.tmod_eq_emod_of_nonneg h]; omega
  · obtain ⟨b, rfl⟩ : ∃ b, a = -b := ⟨-a, by omega⟩
    rw [Int.neg_tmod, Int.tmod_eq_emod_of_nonneg (by omega)]; omega

theorem i64_bounds {n : Int} (h : (Lit.int .i64 n).wf = true) : -9223372036854775808 ≤ n ∧ n ≤ 9223372036854775807 := by
  simp only [Lit.wf, IntKind.min, IntKind.max, IntKind.signed, IntKind.bits, Bool.and_eq_true, decide_eq_true_eq, if_true] at h
  omega

theorem sgn_lt (a b : Int) (h : (if a < 0 then -a else a) < (if b < 0 then -b else b)) : sgn a < sgn b := by
  unfold sgn; by_cases ha : a < 0 <;> by_cases hb : b < 0 <;> simp only [ha, hb, if_true, if_false] at * <;> omega
theorem sgn_inj (a b : Int) (h : a ≠ b) : sgn a ≠ sgn b := fun e => h (by rw [← usgn_sgn a, e, usgn_sgn])

theorem four (A B : Int) : (A < 0 ∧ B < 0) ∨ (A < 0 ∧ 0 ≤ B) ∨ (0 ≤ A ∧ B < 0) ∨ (0 ≤ A ∧ 0 ≤ B) := by omega

set_option maxHeartbeats 4000000 in
theorem signs_walk (a0 a1 : Int) (w0 : (Lit.int .i64 a0).wf = true) (w1 : (Lit.int .i64 a1).wf = true) (w : World) :
    Calls Try.prog 4 #[.int .i64 a0, .int .i64 a1] w fun e w' => e = .returned (.bool true) ∧ Below w.heap.size w w' := by
  have hA := tmod_bd a0
  have hB := tmod_bd a1
  have b0 := i64_bounds w0
  have b1 := i64_bounds w1
  clear w0 w1
  have HU := hide (usgn_sgn (a0.tmod 4611686018427387904))
  have HL := hide (sgn_lt (a0.tmod 4611686018427387904) (a1.tmod 4611686018427387904))
  have HI := hide (sgn_inj (a0.tmod 4611686018427387904) (a1.tmod 4611686018427387904))
  have hs := sgn_range (a0.tmod 4611686018427387904) (by omega) (by omega)
  have h00 : sgn 0 = 0 := by decide
  rcases four (a0.tmod 4611686018427387904) (a1.tmod 4611686018427387904) with ⟨c1, c2⟩ | ⟨c1, c2⟩ | ⟨c1, c2⟩ | ⟨c1, c2⟩
  · have hU := HU.out
    by_cases c3 : -(a0.tmod 4611686018427387904) < -(a1.tmod 4611686018427387904)
    · have hlt := HL.out (by rw [if_pos c1, if_pos c2]; exact c3)
      have hne : (-(a0.tmod 4611686018427387904) == -(a1.tmod 4611686018427387904)) = false := by simp; omega
      go_enter Try.func4, Try.ntmps4
      go_wp2_with (first
        | (go_at_call 8; refine (sign_any _ _ ?_ ?_).mono ?_; rotate_left 2; rintro e w' ⟨rfl, rfl⟩; rotate_right 2; omega; omega)
        | (go_at_call 9; refine (unsign_any _ _ ?_ ?_).mono ?_; rotate_left 2; rintro e w' ⟨rfl, rfl⟩; rotate_right 2; omega; omega)
        | (go_at_call 7; refine (awake_any _).mono ?_; rintro e w' ⟨rfl, hbel⟩))
      go_ret
      exact ⟨rfl, by assumption⟩
    · by_cases c4 : -(a1.tmod 4611686018427387904) < -(a0.tmod 4611686018427387904)
      · have hne : (a0.tmod 4611686018427387904 == a1.tmod 4611686018427387904) = false := by simp; omega
        have hne2 : (-(a0.tmod 4611686018427387904) == -(a1.tmod 4611686018427387904)) = false := by simp; omega
        go_enter Try.func4, Try.ntmps4
        go_wp2_with (first
          | (go_at_call 8; refine (sign_any _ _ ?_ ?_).mono ?_; rotate_left 2; rintro e w' ⟨rfl, rfl⟩; rotate_right 2; omega; omega)
          | (go_at_call 9; refine (unsign_any _ _ ?_ ?_).mono ?_; rotate_left 2; rintro e w' ⟨rfl, rfl⟩; rotate_right 2; omega; omega)
          | (go_at_call 7; refine (awake_any _).mono ?_; rintro e w' ⟨rfl, hbel⟩))
        go_ret
        exact ⟨rfl, by assumption⟩
      · have he : a0.tmod 4611686018427387904 = a1.tmod 4611686018427387904 := by omega
        have hee : (a0.tmod 4611686018427387904 == a1.tmod 4611686018427387904) = true := by simp; omega
        have hee2 : (a0.tmod 4611686018427387904 != a1.tmod 4611686018427387904) = false := by simp; omega
        have hee3 : (-(a0.tmod 4611686018427387904) == -(a1.tmod 4611686018427387904)) = true := by simp; omega
        clear he
        go_enter Try.func4, Try.ntmps4
        go_wp2_with (first
          | (go_at_call 8; refine (sign_any _ _ ?_ ?_).mono ?_; rotate_left 2; rintro e w' ⟨rfl, rfl⟩; rotate_right 2; omega; omega)
          | (go_at_call 9; refine (unsign_any _ _ ?_ ?_).mono ?_; rotate_left 2; rintro e w' ⟨rfl, rfl⟩; rotate_right 2; omega; omega)
          | (go_at_call 7; refine (awake_any _).mono ?_; rintro e w' ⟨rfl, hbel⟩))
        go_ret
        exact ⟨rfl, by assumption⟩
  · have hU := HU.out
    by_cases c3 : -(a0.tmod 4611686018427387904) < a1.tmod 4611686018427387904
    · have hlt := HL.out (by rw [if_pos c1, if_neg (by omega)]; exact c3)
      have hne : (-(a0.tmod 4611686018427387904) == a1.tmod 4611686018427387904) = false := by simp; omega
      go_enter Try.func4, Try.ntmps4
      go_wp2_with (first
        | (go_at_call 8; refine (sign_any _ _ ?_ ?_).mono ?_; rotate_left 2; rintro e w' ⟨rfl, rfl⟩; rotate_right 2; omega; omega)
        | (go_at_call 9; refine (unsign_any _ _ ?_ ?_).mono ?_; rotate_left 2; rintro e w' ⟨rfl, rfl⟩; rotate_right 2; omega; omega)
        | (go_at_call 7; refine (awake_any _).mono ?_; rintro e w' ⟨rfl, hbel⟩))
      go_ret
      exact ⟨rfl, by assumption⟩
    · have hI : (sgn (a0.tmod 4611686018427387904) == sgn (a1.tmod 4611686018427387904)) = false := by simpa using HI.out (by omega)
      have hne : (a0.tmod 4611686018427387904 != a1.tmod 4611686018427387904) = true := by simp; omega
      by_cases c4 : a1.tmod 4611686018427387904 < -(a0.tmod 4611686018427387904)
      · have hne2 : (-(a0.tmod 4611686018427387904) == a1.tmod 4611686018427387904) = false := by simp; omega
        go_enter Try.func4, Try.ntmps4
        go_wp2_with (first
          | (go_at_call 8; refine (sign_any _ _ ?_ ?_).mono ?_; rotate_left 2; rintro e w' ⟨rfl, rfl⟩; rotate_right 2; omega; omega)
          | (go_at_call 9; refine (unsign_any _ _ ?_ ?_).mono ?_; rotate_left 2; rintro e w' ⟨rfl, rfl⟩; rotate_right 2; omega; omega)
          | (go_at_call 7; refine (awake_any _).mono ?_; rintro e w' ⟨rfl, hbel⟩))
        go_ret
        exact ⟨rfl, by assumption⟩
      · have hee3 : (-(a0.tmod 4611686018427387904) == a1.tmod 4611686018427387904) = true := by simp; omega
        go_enter Try.func4, Try.ntmps4
        go_wp2_with (first
          | (go_at_call 8; refine (sign_any _ _ ?_ ?_).mono ?_; rotate_left 2; rintro e w' ⟨rfl, rfl⟩; rotate_right 2; omega; omega)
          | (go_at_call 9; refine (unsign_any _ _ ?_ ?_).mono ?_; rotate_left 2; rintro e w' ⟨rfl, rfl⟩; rotate_right 2; omega; omega)
          | (go_at_call 7; refine (awake_any _).mono ?_; rintro e w' ⟨rfl, hbel⟩))
        go_ret
        exact ⟨rfl, by assumption⟩
  · have hU := HU.out
    by_cases c3 : a0.tmod 4611686018427387904 < -(a1.tmod 4611686018427387904)
    · have hlt := HL.out (by rw [if_neg (by omega), if_pos c2]; exact c3)
      have hne : (a0.tmod 4611686018427387904 == -(a1.tmod 4611686018427387904)) = false := by simp; omega
      go_enter Try.func4, Try.ntmps4
      go_wp2_with (first
        | (go_at_call 8; refine (sign_any _ _ ?_ ?_).mono ?_; rotate_left 2; rintro e w' ⟨rfl, rfl⟩; rotate_right 2; omega; omega)
        | (go_at_call 9; refine (unsign_any _ _ ?_ ?_).mono ?_; rotate_left 2; rintro e w' ⟨rfl, rfl⟩; rotate_right 2; omega; omega)
        | (go_at_call 7; refine (awake_any _).mono ?_; rintro e w' ⟨rfl, hbel⟩))
      go_ret
      exact ⟨rfl, by assumption⟩
    · have hI : (sgn (a0.tmod 4611686018427387904) == sgn (a1.tmod 4611686018427387904)) = false := by simpa using HI.out (by omega)
      have hne : (a0.tmod 4611686018427387904 != a1.tmod 4611686018427387904) = true := by simp; omega
      by_cases c4 : -(a1.tmod 4611686018427387904) < a0.tmod 4611686018427387904
      · have hne2 : (a0.tmod 4611686018427387904 == -(a1.tmod 4611686018427387904)) = false := by simp; omega
        go_enter Try.func4, Try.ntmps4
        go_wp2_with (first
          | (go_at_call 8; refine (sign_any _ _ ?_ ?_).mono ?_; rotate_left 2; rintro e w' ⟨rfl, rfl⟩; rotate_right 2; omega; omega)
          | (go_at_call 9; refine (unsign_any _ _ ?_ ?_).mono ?_; rotate_left 2; rintro e w' ⟨rfl, rfl⟩; rotate_right 2; omega; omega)
          | (go_at_call 7; refine (awake_any _).mono ?_; rintro e w' ⟨rfl, hbel⟩))
        go_ret
        exact ⟨rfl, by assumption⟩
      · have hee3 : (a0.tmod 4611686018427387904 == -(a1.tmod 4611686018427387904)) = true := by simp; omega
        go_enter Try.func4, Try.ntmps4
        go_wp2_with (first
          | (go_at_call 8; refine (sign_any _ _ ?_ ?_).mono ?_; rotate_left 2; rintro e w' ⟨rfl, rfl⟩; rotate_right 2; omega; omega)
          | (go_at_call 9; refine (unsign_any _ _ ?_ ?_).mono ?_; rotate_left 2; rintro e w' ⟨rfl, rfl⟩; rotate_right 2; omega; omega)
          | (go_at_call 7; refine (awake_any _).mono ?_; rintro e w' ⟨rfl, hbel⟩))
        go_ret
        exact ⟨rfl, by assumption⟩
  · have hU := HU.out
    by_cases c3 : a0.tmod 4611686018427387904 < a1.tmod 4611686018427387904
    · have hlt := HL.out (by rw [if_neg (by omega), if_neg (by omega)]; exact c3)
      have hne : (a0.tmod 4611686018427387904 == a1.tmod 4611686018427387904) = false := by simp; omega
      go_enter Try.func4, Try.ntmps4
      go_wp2_with (first
        | (go_at_call 8; refine (sign_any _ _ ?_ ?_).mono ?_; rotate_left 2; rintro e w' ⟨rfl, rfl⟩; rotate_right 2; omega; omega)
        | (go_at_call 9; refine (unsign_any _ _ ?_ ?_).mono ?_; rotate_left 2; rintro e w' ⟨rfl, rfl⟩; rotate_right 2; omega; omega)
        | (go_at_call 7; refine (awake_any _).mono ?_; rintro e w' ⟨rfl, hbel⟩))
      go_ret
      exact ⟨rfl, by assumption⟩
    · by_cases c4 : a1.tmod 4611686018427387904 < a0.tmod 4611686018427387904
      · have hne : (a0.tmod 4611686018427387904 == a1.tmod 4611686018427387904) = false := by simp; omega
        have hne2 : (a0.tmod 4611686018427387904 == a1.tmod 4611686018427387904) = false := by simp; omega
        go_enter Try.func4, Try.ntmps4
        go_wp2_with (first
          | (go_at_call 8; refine (sign_any _ _ ?_ ?_).mono ?_; rotate_left 2; rintro e w' ⟨rfl, rfl⟩; rotate_right 2; omega; omega)
          | (go_at_call 9; refine (unsign_any _ _ ?_ ?_).mono ?_; rotate_left 2; rintro e w' ⟨rfl, rfl⟩; rotate_right 2; omega; omega)
          | (go_at_call 7; refine (awake_any _).mono ?_; rintro e w' ⟨rfl, hbel⟩))
        go_ret
        exact ⟨rfl, by assumption⟩
      · have he : a0.tmod 4611686018427387904 = a1.tmod 4611686018427387904 := by omega
        have hee : (a0.tmod 4611686018427387904 == a1.tmod 4611686018427387904) = true := by simp; omega
        have hee2 : (a0.tmod 4611686018427387904 != a1.tmod 4611686018427387904) = false := by simp; omega
        have hee3 : (a0.tmod 4611686018427387904 == a1.tmod 4611686018427387904) = true := by simp; omega
        clear he
        go_enter Try.func4, Try.ntmps4
        go_wp2_with (first
          | (go_at_call 8; refine (sign_any _ _ ?_ ?_).mono ?_; rotate_left 2; rintro e w' ⟨rfl, rfl⟩; rotate_right 2; omega; omega)
          | (go_at_call 9; refine (unsign_any _ _ ?_ ?_).mono ?_; rotate_left 2; rintro e w' ⟨rfl, rfl⟩; rotate_right 2; omega; omega)
          | (go_at_call 7; refine (awake_any _).mono ?_; rintro e w' ⟨rfl, hbel⟩))
        go_ret
        exact ⟨rfl, by assumption⟩
end Go.Proofs.Ytonfnpcgjcicdab.Clep
