/- Plain mathematics of lists of numbers as bytes: what is put is taken again; what is cut is torn. No conditions. -/
import Derived.Test.YtgopcaemgcnapaaNUnlist
namespace Go.Proofs.Ytgopcaemgcnapaa.Clep
open Go.RowKit
set_option linter.unusedVariables false
set_option maxRecDepth 10000

theorem tk_take (n : Int) (r : List Int) (K : Nat) (h0 : 0 ≤ n) (h1 : n ≤ 18446744073709551615) : tk ((pu n ++ r).take K) 0 0 = if K < (pu n).length then (0, 0, 4) else (n, ((pu n).length : Int), 0) := by
  split
  · rename_i hK
    rw [List.take_append_of_le_length (by omega)]
    obtain ⟨hi, last, e, hh, _, _, hl⟩ := enc_split 9 n h0 (u64_fuel n h1)
    have e' : pu n = hi ++ [last] := e
    rw [e'] at hK ⊢
    simp only [List.length_append, List.length_cons, List.length_nil] at hK
    rw [List.take_append_of_le_length (by omega)]
    obtain ⟨n', e2⟩ := tk_highs (hi.take K) [] 0 0 (fun z hz => (hh z (List.mem_of_mem_take hz)).1) (by rw [List.length_take]; omega)
    rw [List.append_nil] at e2
    rw [e2]; rfl
  · rename_i hK
    rw [show (pu n ++ r).take K = pu n ++ r.take (K - (pu n).length) from by rw [List.take_append]; congr 1; exact List.take_of_length_le (by omega)]
    exact tk_pu n _ h0 h1

theorem rest_len (ns : List Int) (j : Nat) (h : j < ns.length) : (rest ns j).length = (pu (ns.getD j 0)).length + (rest ns (j + 1)).length := by
  rw [rest_at ns j h, List.length_append]

/-- A list that is whole from place P on. -/
theorem uls_whole (ns : List Int) (hz : ∀ i, 0 ≤ ns.getD i 0 ∧ ns.getD i 0 ≤ 18446744073709551615) (zs tail : List Int) : ∀ (c j P : Nat) (acc : List Int), j + c = ns.length → zs.drop P = rest ns j ++ tail →
    uls c zs P acc = (acc ++ ns.drop j, ((P + (rest ns j).length : Nat) : Int), 0)
  | 0, j, P, acc, hj, _ => by
    rw [uls, rest_end ns j (by omega), List.drop_eq_nil_of_le (by omega)]; simp
  | c + 1, j, P, acc, hj, hd => by
    have hlt : j < ns.length := by omega
    have ht : tk (zs.drop P) 0 0 = (ns.getD j 0, ((pu (ns.getD j 0)).length : Int), 0) := by
      rw [hd, rest_at ns j hlt, List.append_assoc]; exact tk_pu _ _ (hz j).1 (hz j).2
    rw [uls_yes c zs P acc _ _ _ ht rfl, uls_whole ns hz zs tail c (j + 1) _ _ (by omega)]
    · rw [rest_len ns j hlt, drop_get ns j hlt]
      simp
      omega
    · rw [Int.toNat_natCast, ← List.drop_drop, hd, rest_at ns j hlt, List.append_assoc, List.drop_left]

/-- A list that is cut ends torn. -/
theorem uls_cut (ns : List Int) (hz : ∀ i, 0 ≤ ns.getD i 0 ∧ ns.getD i 0 ≤ 18446744073709551615) (zs : List Int) (K : Nat) : ∀ (c j P : Nat) (acc : List Int), j + c = ns.length → zs.drop P = (rest ns j).take (K - P) → P ≤ K → K < P + (rest ns j).length →
    uls c zs P acc = ([], 0, 4)
  | 0, j, P, acc, hj, _, h1, h2 => by
    rw [rest_end ns j (by omega)] at h2
    simp at h2
    omega
  | c + 1, j, P, acc, hj, hd, h1, h2 => by
    have hlt : j < ns.length := by omega
    have ht := tk_take (ns.getD j 0) (rest ns (j + 1)) (K - P) (hz j).1 (hz j).2
    rw [← rest_at ns j hlt, ← hd] at ht
    rw [rest_len ns j hlt] at h2
    by_cases hK : K - P < (pu (ns.getD j 0)).length
    · rw [if_pos hK] at ht
      exact uls_no c zs P acc _ _ _ ht (by omega)
    · rw [if_neg hK] at ht
      rw [uls_yes c zs P acc _ _ _ ht rfl]
      rw [Int.toNat_natCast]
      refine uls_cut ns hz zs K c (j + 1) _ _ (by omega) ?_ (by omega) (by omega)
      rw [← List.drop_drop, hd, rest_at ns j hlt, List.take_append, List.drop_append]
      rw [List.drop_eq_nil_of_le (by rw [List.length_take]; omega), List.nil_append]
      rw [show K - P - (pu (ns.getD j 0)).length = K - (P + (pu (ns.getD j 0)).length) from by omega]
      rw [List.length_take, Nat.min_eq_right (by omega), Nat.sub_self, List.drop_zero]

theorem li_tk (ns tail : List Int) (hl : ns.length ≤ 100000) : tk (li ns ++ tail) 0 0 = ((ns.length : Int), ((pu (ns.length : Int)).length : Int), 0) := by
  unfold li; rw [List.append_assoc]; exact tk_pu _ _ (by omega) (by omega)
theorem ul_whole (ns tail : List Int) (hz : ∀ i, 0 ≤ ns.getD i 0 ∧ ns.getD i 0 ≤ 18446744073709551615) (hl : ns.length ≤ 100000) (most : Int) (hm : (ns.length : Int) ≤ most) : ul (li ns ++ tail) most = (ns, ((li ns).length : Int), 0) := by
  unfold ul
  rw [li_tk ns tail hl]
  simp only
  rw [if_pos trivial, if_neg (by omega), Int.toNat_natCast, Int.toNat_natCast, uls_whole ns hz _ tail ns.length 0 _ [] (by omega) (by unfold li; rw [List.append_assoc, List.drop_left])]
  simp [li]
theorem ul_short (ns : List Int) (hz : ∀ i, 0 ≤ ns.getD i 0 ∧ ns.getD i 0 ≤ 18446744073709551615) (hl : ns.length ≤ 100000) (h0 : 0 < ns.length) : ul (li ns) ((ns.length : Int) - 1) = ([], 0, 2) := by
  have := li_tk ns [] hl
  rw [List.append_nil] at this
  unfold ul
  rw [this]
  simp only
  rw [if_pos trivial, if_pos (by omega)]
theorem ul_cut (ns : List Int) (hz : ∀ i, 0 ≤ ns.getD i 0 ∧ ns.getD i 0 ≤ 18446744073709551615) (hl : ns.length ≤ 100000) (most : Int) (hm : (ns.length : Int) ≤ most) (K : Nat) (hK : K < (li ns).length) : ul ((li ns).take K) most = ([], 0, 4) := by
  have ht := tk_take (ns.length : Int) (rest ns 0) K (by omega) (by omega)
  have hll : (li ns).length = (pu (ns.length : Int)).length + (rest ns 0).length := by unfold li; rw [List.length_append]
  change tk ((li ns).take K) 0 0 = _ at ht
  unfold ul
  by_cases h : K < (pu (ns.length : Int)).length
  · rw [if_pos h] at ht
    rw [ht]
    simp only
    rw [if_neg (by omega)]
  · rw [if_neg h] at ht
    rw [ht]
    simp only
    rw [if_pos trivial, if_neg (by omega), Int.toNat_natCast, Int.toNat_natCast]
    refine uls_cut ns hz _ K ns.length 0 _ [] (by omega) ?_ (by omega) (by omega)
    rw [List.drop_take]
    unfold li; rw [List.drop_left]
theorem li_len (ns : List Int) (h : ns.length ≤ 100000) : 1 ≤ (li ns).length ∧ (li ns).length ≤ 10 + 10 * ns.length := by
  have h1 := pu_len (ns.length : Int)
  have h2 := rows_len ns ns.length (Nat.le_refl _)
  rw [rows_all ns _ (Nat.le_refl _)] at h2
  unfold li; rw [List.length_append]; omega
theorem li_range (ns : List Int) (hz : ∀ i, 0 ≤ ns.getD i 0 ∧ ns.getD i 0 ≤ 18446744073709551615) (hl : ns.length ≤ 100000) : ∀ z ∈ li ns, 0 ≤ z ∧ z < 256 := by
  unfold li
  refine cat_range (pu_range _ (by omega) (by omega)) ?_
  rw [← rows_all ns ns.length (Nat.le_refl _)]; exact rows_range ns hz _

end Go.Proofs.Ytgopcaemgcnapaa.Clep
