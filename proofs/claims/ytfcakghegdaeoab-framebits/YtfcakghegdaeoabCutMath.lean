/- Frames one behind the other, cut: what is told of them. -/
import Derived.Test.YtfcakghegdaeoabMade
namespace Go.Proofs.Ytfcakghegdaeoab.Clep
open Go.RowKit
set_option linter.unusedVariables false

theorem hd_kd (k : Int) (n : Nat) (r : List Int) : kd (sl (hd k n) ++ r) = k := by simp [kd, sl, hd]
theorem hd_ln (k : Int) (n : Nat) (r : List Int) (hn : n ≤ 60000) : ln (sl (hd k n) ++ r) = n := by
  simp only [ln, sl, hd, List.cons_append, List.nil_append, List.getD_cons_succ, List.getD_cons_zero]
  omega
theorem hd_he (k : Int) (n : Nat) (r : List Int) (hk : 1 ≤ k) (hk2 : k ≤ 100) (hn : n ≤ 60000) : he (sl (hd k n) ++ r) = 0 := by
  have hg : nn ((sl (hd k n)).drop 4) = crc ((sl (hd k n)).take 4) := good_sl (hd k n) (hd_range k n hk hk2 hn)
  unfold he
  rw [List.take_append_of_le_length (by rw [sl_len, hd_len]; omega), List.take_of_length_le (by rw [sl_len, hd_len]; omega), if_pos hg]
/-- A frame that is cut is torn. -/
theorem torn (k : Int) (ys : List Int) (t : Nat) (hk : 1 ≤ k) (hk2 : k ≤ 100) (hn : ys.length ≤ 60000) (ht : t < ys.length + 12) : ce ((fr k ys).take t) = 4 := by
  have hlen : ((fr k ys).take t).length = t := by rw [List.length_take, fr_len]; omega
  rcases Nat.lt_or_ge t 8 with h | h
  · unfold ce; rw [if_pos (by omega)]
  · have e : (fr k ys).take t = sl (hd k ys.length) ++ (sl ys).take (t - 8) := by
      unfold fr
      rw [List.take_append, List.take_of_length_le (by rw [sl_len, hd_len]; omega), sl_len, hd_len]
    unfold ce
    rw [if_neg (by omega), hlen, e, if_neg (by rw [hd_he _ _ _ hk hk2 hn]; simp), if_neg (by rw [hd_kd, hd_ln _ _ _ hn]; omega), if_pos (by rw [hd_ln _ _ _ hn]; omega)]

/-- The first n frames, told. -/
def fl (zss : List (List Int)) (n : Nat) : List (Int × List Int) := (List.range n).map fun i => (kn i, zss.getD i [])
theorem fl_len (zss : List (List Int)) (n : Nat) : (fl zss n).length = n := by simp [fl]
theorem fl_succ (zss : List (List Int)) (n : Nat) : fl zss (n + 1) = fl zss n ++ [(kn n, zss.getD n [])] := by simp [fl, List.range_succ]
theorem SP_rws (zss : List (List Int)) (m : Nat) (hok : okb zss m) (hb : ∀ i, i < m → ByteL (zss.getD i [])) : ∀ (n : Nat) (r : List Int), n ≤ m → SP (rws zss n ++ r) = (fl zss n ++ (SP r).1, en zss n + (SP r).2.1, (SP r).2.2)
  | 0, r, _ => by simp [rws, fl, en]
  | n + 1, r, hn => by
    have h300 := hok n (by omega)
    rw [rws, List.append_assoc, SP_rws zss m hok hb n _ (by omega), SP_front _ _ _ (kn_range n).1 (kn_range n).2 (by omega) (hb n (by omega)), fl_succ, en_succ]
    simp only [List.append_assoc, List.singleton_append, Nat.add_assoc]
theorem rws_split (zss : List (List Int)) (n : Nat) : ∀ d, ∃ r, rws zss (n + d) = rws zss n ++ r ∧ (0 < d → ∃ r', r = fr (kn n) (zss.getD n []) ++ r')
  | 0 => ⟨[], by simp, fun h => by omega⟩
  | d + 1 => by
    obtain ⟨r, h1, h2⟩ := rws_split zss n d
    refine ⟨r ++ fr (kn (n + d)) (zss.getD (n + d) []), by rw [← Nat.add_assoc, rws, h1, List.append_assoc], fun _ => ?_⟩
    rcases Nat.eq_zero_or_pos d with h | h
    · subst h
      have hr : r = [] := by
        have := congrArg List.length h1
        rw [Nat.add_zero, List.length_append] at this
        exact List.eq_nil_of_length_eq_zero (by omega)
      exact ⟨[], by simp [hr]⟩
    · obtain ⟨r', rfl⟩ := h2 h
      exact ⟨r' ++ fr (kn (n + d)) (zss.getD (n + d) []), by rw [List.append_assoc]⟩
/-- FrameCuts: frames that are cut at K, n of them whole. -/
theorem SP_cut (zss : List (List Int)) (m n K : Nat) (hok : okb zss m) (hb : ∀ i, i < m → ByteL (zss.getD i [])) (hn : n ≤ m) (hK : K ≤ en zss m) (h1 : en zss n ≤ K) (h2 : n < m → K < en zss (n + 1)) :
    SP ((rws zss m).take K) = (fl zss n, en zss n, if K = en zss n then 0 else 4) := by
  obtain ⟨r, hr, hr2⟩ := rws_split zss n (m - n)
  rw [show n + (m - n) = m from by omega] at hr
  have hlen : (rws zss n).length = en zss n := rfl
  have e : (rws zss m).take K = rws zss n ++ r.take (K - en zss n) := by
    rw [hr, List.take_append, List.take_of_length_le (by omega), hlen]
  rw [e, SP_rws zss m hok hb n _ hn]
  rcases Nat.eq_or_lt_of_le h1 with h | h
  · rw [h, Nat.sub_self, List.take_zero, SP_nil, if_pos rfl]
    simp
  · rcases Nat.lt_or_ge n m with hnm | hnm
    · obtain ⟨r', rfl⟩ := hr2 (by omega)
      have h3 := h2 hnm
      rw [en_succ] at h3
      have h300 := hok n hnm
      have e2 : (fr (kn n) (zss.getD n []) ++ r').take (K - en zss n) = (fr (kn n) (zss.getD n [])).take (K - en zss n) := List.take_append_of_le_length (by rw [fr_len]; omega)
      have ht := torn (kn n) (zss.getD n []) (K - en zss n) (kn_range n).1 (kn_range n).2 (by omega) (by omega)
      have hne : (fr (kn n) (zss.getD n [])).take (K - en zss n) ≠ [] := fun h => by
        have := congrArg List.length h
        rw [List.length_take, fr_len, List.length_nil] at this
        omega
      rw [e2, SP_bad _ hne (by rw [ht]; decide), ht, if_neg (by omega)]
      simp
    · have : n = m := by omega
      subst this
      omega

end Go.Proofs.Ytfcakghegdaeoab.Clep
