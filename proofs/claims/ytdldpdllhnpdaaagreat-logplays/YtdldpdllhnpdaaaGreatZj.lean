/- Plain mathematics of items as bytes: what is written is read again; what is cut, or has bytes behind, is refused. No conditions. -/
import Derived.Test.YtdldpdllhnpdaaaGreatZi
import Derived.BigRegion
import Derived.Laws.StructEq
namespace Go.Proofs.YtdldpdllhnpdaaaGreat.Clep
open Go.RowKit
set_option linter.unusedVariables false
set_option maxRecDepth 10000

theorem one1_cons (c : Int) (r : List Int) : one1 (c :: r, 0) = (c, r, 0) := rfl
theorem one1_bad (s : List Int) (e : Int) (h : e ≠ 0) : one1 (s, e) = (0, s, e) := by unfold one1; rw [if_pos h]
theorem num1_bad (s : List Int) (e : Int) (h : e ≠ 0) : num1 (s, e) = (0, s, e) := by unfold num1; rw [if_pos h]
theorem num1_pu (n : Int) (r : List Int) (h0 : 0 ≤ n) (h1 : n ≤ 18446744073709551615) : num1 (pu n ++ r, 0) = (n, r, 0) := by
  unfold num1
  simp only [ne_eq, not_true_eq_false, if_false]
  rw [tk_pu n r h0 h1]
  simp
theorem tk_cut (n : Int) (j : Nat) (h0 : 0 ≤ n) (h1 : n ≤ 18446744073709551615) (hj : j < (pu n).length) : tk ((pu n).take j) 0 0 = (0, 0, 4) := by
  obtain ⟨hi, last, e, hh, _, _, h9⟩ := enc_split 9 n h0 (u64_fuel n h1)
  unfold pu at hj ⊢
  rw [e] at hj ⊢
  rw [List.length_append] at hj
  simp only [List.length_cons, List.length_nil] at hj
  rw [List.take_append_of_le_length (by omega)]
  obtain ⟨n', hn⟩ := tk_highs (hi.take j) [] 0 0 (fun z hz => (hh z (List.mem_of_mem_take hz)).1) (by rw [List.length_take]; omega)
  rw [List.append_nil] at hn
  rw [hn]
  rfl
theorem num1_cut (n : Int) (j : Nat) (R : List Int) (h0 : 0 ≤ n) (h1 : n ≤ 18446744073709551615) :
    ((pu n).length ≤ j ∧ num1 ((pu n ++ R).take j, 0) = (n, R.take (j - (pu n).length), 0)) ∨ (j < (pu n).length ∧ (num1 ((pu n ++ R).take j, 0)).2.2 ≠ 0) := by
  by_cases hj : (pu n).length ≤ j
  · left
    refine ⟨hj, ?_⟩
    rw [List.take_append, List.take_of_length_le hj]
    exact num1_pu n _ h0 h1
  · right
    refine ⟨by omega, ?_⟩
    rw [List.take_append_of_le_length (by omega)]
    unfold num1
    simp only [ne_eq, not_true_eq_false, if_false]
    rw [tk_cut n j h0 h1 (by omega)]
    decide

theorem item1_ok (x : It) (r : List Int) (hw : x.wf) (hk : x.ok = true) : item1 (x.b ++ r, 0) = (x, r, 0) := by
  obtain ⟨S, K, T, V, X⟩ := x
  obtain ⟨_, _, hT, hV, hX⟩ := hw
  have hs := sgn_range X hX.1 hX.2
  unfold It.ok okI at hk
  simp only [decide_eq_true_eq] at hk
  have e : (⟨S, K, T, V, X⟩ : It).b ++ r = S :: K :: (pu T ++ (pu V ++ (pu (sgn X) ++ r))) := by
    unfold It.b ib
    simp only
    rw [show S % 256 = S from by omega, show K % 256 = K from by omega]
    simp
  rw [e]
  unfold item1
  simp only [one1_cons, num1_pu T _ hT.1 hT.2, num1_pu V _ hV.1 hV.2, num1_pu (sgn X) _ hs.1 hs.2, usgn_sgn]
theorem item1_cut (x : It) (j : Nat) (R : List Int) (hw : x.wf) (hj : j < x.b.length) : (item1 ((x.b ++ R).take j, 0)).2.2 ≠ 0 := by
  obtain ⟨S, K, T, V, X⟩ := x
  obtain ⟨_, _, hT, hV, hX⟩ := hw
  have hs := sgn_range X hX.1 hX.2
  have e : (⟨S, K, T, V, X⟩ : It).b ++ R = S % 256 :: K % 256 :: (pu T ++ (pu V ++ (pu (sgn X) ++ R))) := by
    unfold It.b ib
    simp
  have el : (⟨S, K, T, V, X⟩ : It).b.length = 2 + (pu T).length + (pu V).length + (pu (sgn X)).length := by
    unfold It.b ib
    simp
    omega
  rw [e]
  rw [el] at hj
  match j, hj with
  | 0, _ => unfold item1; simp [one1, num1]
  | 1, _ => unfold item1; simp [one1, num1]
  | j + 2, hj =>
    simp only [List.take_succ_cons]
    unfold item1
    simp only [one1_cons]
    rcases num1_cut T j (pu V ++ (pu (sgn X) ++ R)) hT.1 hT.2 with ⟨l1, h1⟩ | ⟨l1, h1⟩
    · rw [h1]
      simp only
      rcases num1_cut V (j - (pu T).length) (pu (sgn X) ++ R) hV.1 hV.2 with ⟨l2, h2⟩ | ⟨l2, h2⟩
      · rw [h2]
        simp only
        rcases num1_cut (sgn X) (j - (pu T).length - (pu V).length) R hs.1 hs.2 with ⟨l3, h3⟩ | ⟨l3, h3⟩
        · omega
        · exact h3
      · generalize num1 (List.take (j - (pu T).length) (pu V ++ (pu (sgn X) ++ R)), 0) = q at *
        obtain ⟨a, b, c⟩ := q
        simp only at h2 ⊢
        rw [num1_bad b c h2]
        exact h2
    · generalize num1 (List.take j (pu T ++ (pu V ++ (pu (sgn X) ++ R))), 0) = q at *
      obtain ⟨a, b, c⟩ := q
      simp only at h1 ⊢
      rw [num1_bad b c h1]
      simp only
      rw [num1_bad b c h1]
      exact h1

theorem rds_ok : ∀ (l : List It) (r : List Int) (acc : List It), (∀ x ∈ l, x.wf) → l.all It.ok = true → rds l.length (ibs l ++ r, 0) acc = (acc ++ l, r, 0)
  | [], r, acc, _, _ => by simp [rds, ibs]
  | x :: l, r, acc, hw, hk => by
    have hx := hw x (by simp)
    simp only [List.all_cons, Bool.and_eq_true] at hk
    have e : ibs (x :: l) ++ r = x.b ++ (ibs l ++ r) := by simp [ibs]
    rw [List.length_cons, rds, e, item1_ok x _ hx hk.1]
    simp only [ne_eq, not_true_eq_false, if_false]
    rw [rds_ok l r (acc ++ [x]) (fun y hy => hw y (by simp [hy])) hk.2]
    simp
theorem rds_cut : ∀ (l : List It) (j : Nat) (acc : List It), (∀ x ∈ l, x.wf) → l.all It.ok = true → j < (ibs l).length → (rds l.length ((ibs l).take j, 0) acc).2.2 ≠ 0
  | [], j, acc, _, _, hj => by simp [ibs] at hj
  | x :: l, j, acc, hw, hk, hj => by
    have hx := hw x (by simp)
    simp only [List.all_cons, Bool.and_eq_true] at hk
    have e : ibs (x :: l) = x.b ++ ibs l := by simp [ibs]
    rw [e] at hj ⊢
    rw [List.length_cons, rds]
    by_cases hb : j < x.b.length
    · have := item1_cut x j (ibs l) hx hb
      rw [if_pos this]
      exact this
    · rw [List.length_append] at hj
      rw [List.take_append, List.take_of_length_le (by omega), item1_ok x _ hx hk.1]
      simp only [ne_eq, not_true_eq_false, if_false]
      exact rds_cut l (j - x.b.length) (acc ++ [x]) (fun y hy => hw y (by simp [hy])) hk.2 (by omega)

theorem rd_ok (l : List It) (hw : ∀ x ∈ l, x.wf) (hk : l.all It.ok = true) (hl : l.length ≤ 2000) : rd (ibn l) = (l, 0) := by
  unfold rd ibn
  rw [num1_pu l.length (ibs l) (by omega) (by omega)]
  have := rds_ok l [] [] hw hk
  rw [List.append_nil, List.nil_append] at this
  simp only [Int.toNat_natCast, ne_eq, not_true_eq_false, if_false]
  rw [if_neg (by omega), this]
  simp [hk]
theorem rd_more (l : List It) (c : Int) (r : List Int) (hw : ∀ x ∈ l, x.wf) (hk : l.all It.ok = true) (hl : l.length ≤ 2000) : rd (ibn l ++ c :: r) = ([], 3) := by
  unfold rd ibn
  rw [List.append_assoc, num1_pu l.length (ibs l ++ c :: r) (by omega) (by omega)]
  have := rds_ok l (c :: r) [] hw hk
  rw [List.nil_append] at this
  simp only [Int.toNat_natCast, ne_eq, not_true_eq_false, if_false]
  rw [if_neg (by omega), this]
  simp
theorem rd_cut (l : List It) (j : Nat) (hw : ∀ x ∈ l, x.wf) (hk : l.all It.ok = true) (hl : l.length ≤ 2000) (hj : j < (ibn l).length) : (rd ((ibn l).take j)).2 ≠ 0 := by
  unfold ibn at hj ⊢
  unfold rd
  rcases num1_cut l.length j (ibs l) (by omega) (by omega) with ⟨l1, h1⟩ | ⟨l1, h1⟩
  · rw [List.length_append] at hj
    have := rds_cut l (j - (pu l.length).length) [] hw hk (by omega)
    rw [h1]
    simp only [Int.toNat_natCast, ne_eq, not_true_eq_false, if_false]
    rw [if_neg (by omega), if_pos this]
    exact this
  · rw [if_pos h1]
    exact h1
theorem ibn_len (l : List It) (hl : l.length ≤ 2000) : 1 ≤ (ibn l).length ∧ (ibn l).length ≤ 64010 := by
  have h1 := pu_len l.length
  have h2 := ibs_len l
  unfold ibn
  rw [List.length_append]
  omega
theorem ibn_range (l : List It) (hw : ∀ x ∈ l, x.wf) (hl : l.length ≤ 2000) : ∀ z ∈ ibn l, 0 ≤ z ∧ z < 256 := by
  unfold ibn
  exact cat_range (pu_range _ (by omega) (by omega)) (ibs_range l hw)

end Go.Proofs.YtdldpdllhnpdaaaGreat.Clep

/- What the document's own May and Equal do when called: for any items; for two rows of the same items. No conditions. -/
namespace Go.Proofs.YtdldpdllhnpdaaaGreat.Clep
open Go.RowKit
set_option linter.unusedVariables false
set_option maxRecDepth 10000

/-- The error of Bytes. -/
def may (l : List It) : Int := if 2000 < l.length then 2 else if l.all It.ok = true then 0 else 1

theorem all_take_succ (l : List It) (k : Nat) (x : It) (h : l[k]? = some x) : (l.take (k + 1)).all It.ok = ((l.take k).all It.ok && x.ok) := by
  rw [List.take_add_one, h]
  simp [List.all_append, Option.toList]
theorem all_false_of (l : List It) (k : Nat) (x : It) (h : l[k]? = some x) (hx : x.ok = false) : l.all It.ok = false := by
  rw [List.all_eq_false]
  exact ⟨x, List.mem_of_getElem? h, by simp [hx]⟩

set_option maxHeartbeats 800000 in
theorem may_any (ao : Option Addr) (len cap : Nat) (l : List It) (w : World) (hm : len ≤ 9223372036854775807) (h : Is w ao len cap l) :
    Calls Tryz.prog 25 #[.slice ao len cap] w fun e w' => e = .returned (.int .i64 (may l)) ∧ Below w.heap.size w w' := by
  have hl := h.1
  by_cases hlong : 2000 < len
  · have hp := hide (show may l = 2 by unfold may; rw [if_pos (by omega)])
    clear h
    go_enter Tryz.func25, Tryz.ntmps25
    go_wp2
    go_ret
    exact ⟨by rw [hp.out]; rfl, Below.refl _ _⟩
  · have hp := hide (show may l = if l.all It.ok = true then 0 else 1 by unfold may; rw [if_neg (by omega)])
    have H1 := hide (fun W (hW : Below w.heap.size w W) => h.below hW (Nat.le_refl _))
    have HL := hide hl
    clear h
    go_enter Tryz.func25, Tryz.ntmps25
    go_wp2_with fail
    go_loopw [3] (fun i wr => ∃ k : Nat, k ≤ len ∧ i = .int .i64 k ∧ Hid ((l.take k).all It.ok = true) ∧ Hid (Below w.heap.size w wr)) (fun i _ => len - (intOf i).toNat)
    case atStart => exact ⟨0, by omega, rfl, hide (by simp), hide (Below.refl _ _)⟩
    case round =>
      obtain ⟨k, hk, rfl, hal, hbel⟩ := hrel
      by_cases hlt : k < len
      · have hI := H1.out _ hbel.out
        obtain ⟨b, off, rfl, hc⟩ := hI.2.2.2 (by omega)
        obtain ⟨x, hx⟩ : ∃ x, l[k]? = some x := ⟨_, List.getElem?_eq_getElem (by rw [hl]; exact hlt)⟩
        have hv := hc k x hx
        have HS := hide (all_take_succ l k x hx)
        have HF := hide (all_false_of l k x hx)
        unfold It.ok at HS HF
        obtain ⟨S, K, T, V, X⟩ := x
        unfold Vt Vi at hv
        simp only at hv HS HF
        obtain ⟨v0, v1, v2, v3, v4⟩ := hv
        clear hI hc hx
        go_wp2_with fail
        refine (refok_any S K T V X wr).mono ?_
        generalize okI S K T V X = o at *
        rintro e w1 ⟨rfl, b1⟩
        have B1 := hide (bmore hbel.out b1)
        clear b1 hbel v0 v1 v2 v3 v4
        cases o with
        | false =>
          have hp2 := hide (show may l = 1 by rw [hp.out, if_neg (by have := HF.out rfl; unfold It.ok at *; simp_all)])
          clear HS HF hp
          go_wp2
          go_ret
          exact ⟨by rw [hp2.out]; rfl, B1.out⟩
        | true =>
          have ha2 := hide (show (l.take (k + 1)).all It.ok = true by have := HS.out; have := hal.out; unfold It.ok at *; simp_all)
          clear HS HF
          go_wp2
          go_roundw
          case rel => exact ⟨k + 1, by omega, by go_num, ha2, B1⟩
          case measure => simp [intOf]; omega
      · obtain rfl : k = len := by omega
        have hp2 := hide (show may l = 0 by
          rw [hp.out, if_pos]
          have := hal.out
          rwa [show l.take k = l from by rw [← HL.out]; exact List.take_length] at this)
        go_wp2
        go_ret
        exact ⟨by rw [hp2.out]; rfl, hbel.out⟩

set_option maxHeartbeats 800000 in
theorem equal_same (a0 a1 : Option Addr) (len cap0 cap1 : Nat) (l : List It) (w : World) (hm : len ≤ 9223372036854775807) (h0 : Is w a0 len cap0 l) (h1 : Is w a1 len cap1 l) :
    Calls Tryz.prog 41 #[.slice a0 len cap0, .slice a1 len cap1] w fun e w' => e = .returned (.bool true) ∧ Below w.heap.size w w' := by
  have hl := h0.1
  have H0 := hide (fun W (hW : Below w.heap.size w W) => h0.below hW (Nat.le_refl _))
  have H1 := hide (fun W (hW : Below w.heap.size w W) => h1.below hW (Nat.le_refl _))
  clear h0 h1
  go_enter Tryz.func41, Tryz.ntmps41
  go_wp2_with fail
  go_loopw [5] (fun i wr => ∃ k : Nat, k ≤ len ∧ i = .int .i64 k ∧ Hid (Below w.heap.size w wr)) (fun i _ => len - (intOf i).toNat)
  case atStart => exact ⟨0, by omega, rfl, hide (Below.refl _ _)⟩
  case round =>
    obtain ⟨k, hk, rfl, hbel⟩ := hrel
    by_cases hlt : k < len
    · have hI0 := H0.out _ hbel.out
      have hI1 := H1.out _ hbel.out
      obtain ⟨b, off, rfl, hc⟩ := hI0.2.2.2 (by omega)
      obtain ⟨b', off', rfl, hc'⟩ := hI1.2.2.2 (by omega)
      obtain ⟨x, hx⟩ : ∃ x, l[k]? = some x := ⟨_, List.getElem?_eq_getElem (by rw [hl]; exact hlt)⟩
      have hv := hc k x hx
      have hu := hc' k x hx
      obtain ⟨S, K, T, V, X⟩ := x
      unfold Vt Vi at hv hu
      simp only at hv hu
      obtain ⟨v0, v1, v2, v3, v4⟩ := hv
      obtain ⟨u0, u1, u2, u3, u4⟩ := hu
      clear hI0 hI1 hc hc' hx
      go_wp2_with fail
      go_region
      go_wp2
      go_roundw
      case rel => exact ⟨k + 1, by omega, by go_num, hide hbel.out.drew⟩
      case measure => simp [intOf]; omega
    · go_wp2
      go_ret
      exact ⟨rfl, hbel.out⟩

end Go.Proofs.YtdldpdllhnpdaaaGreat.Clep
