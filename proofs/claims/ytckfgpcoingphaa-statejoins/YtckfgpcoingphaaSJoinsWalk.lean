/- StateJoins, walked: for any three lists. No conditions. -/
import Derived.Test.YtckfgpcoingphaaSAwake
import Derived.Test.YtckfgpcoingphaaSLaw
namespace Go.Proofs.Ytckfgpcoingphaa.Clep
open Go.RowKit
set_option linter.unusedVariables false

set_option maxRecDepth 4000 in
set_option maxHeartbeats 4000000 in
theorem joins_walk (a0 a1 a2 : Option Addr) (len0 cap0 len1 cap1 len2 cap2 : Nat) (la lb lc : List It) (w : World) (h0 : Is w a0 len0 cap0 la) (h1 : Is w a1 len1 cap1 lb) (h2 : Is w a2 len2 cap2 lc) (hm0 : len0 ≤ 9223372036854775807) (hm1 : len1 ≤ 9223372036854775807) (hm2 : len2 ≤ 9223372036854775807) :
    Calls Try.prog 8 #[.slice a0 len0 cap0, .slice a1 len1 cap1, .slice a2 len2 cap2] w fun e w' => e = .returned (.bool true) ∧ Below w.heap.size w w' := by
  have I_la := hide h0
  have I_lb := hide h1
  have I_lc := hide h2
  clear h0 h1 h2
  by_cases hlong_len0 : 40 < len0
  · go_enter Try.func8, Try.ntmps8
    go_wp2_with fail
    refine (awake6_any _).mono ?_
    rintro e w1 ⟨rfl, b1⟩
    go_wp2
    go_ret
    exact ⟨rfl, b1⟩
  by_cases hlong_len1 : 40 < len1
  · go_enter Try.func8, Try.ntmps8
    go_wp2_with fail
    refine (awake6_any _).mono ?_
    rintro e w1 ⟨rfl, b1⟩
    go_wp2
    go_ret
    exact ⟨rfl, b1⟩
  by_cases hlong_len2 : 40 < len2
  · go_enter Try.func8, Try.ntmps8
    go_wp2_with fail
    refine (awake6_any _).mono ?_
    rintro e w1 ⟨rfl, b1⟩
    go_wp2
    go_ret
    exact ⟨rfl, b1⟩
  have HB := hide (Below.refl w.heap.size w)
  go_enter Try.func8, Try.ntmps8
  go_wp2_with fail
  refine (of_any a0 len0 cap0 la _ I_la.out (by omega)).mono ?_
  intro e w1 hans
  obtain ⟨a_x, n_x, c_x, rfl, i_x, b1⟩ := ans_n hans
  have N_x : n_x ≤ 40 := by have hq := i_x.1; have := ofL_len la; have := I_la.out.1; omega
  have I_x := hide i_x
  clear hans i_x
  replace I_la := hide (I_la.out.below b1 (Nat.le_refl _))
  replace I_lb := hide (I_lb.out.below b1 (Nat.le_refl _))
  replace I_lc := hide (I_lc.out.below b1 (Nat.le_refl _))
  replace HB := hide (bmore HB.out b1)
  clear b1
  go_wp2_with fail
  refine (of_any a1 len1 cap1 lb _ I_lb.out (by omega)).mono ?_
  intro e w2 hans
  obtain ⟨a_y, n_y, c_y, rfl, i_y, b2⟩ := ans_n hans
  have N_y : n_y ≤ 40 := by have hq := i_y.1; have := ofL_len lb; have := I_lb.out.1; omega
  have I_y := hide i_y
  clear hans i_y
  replace I_la := hide (I_la.out.below b2 (Nat.le_refl _))
  replace I_lb := hide (I_lb.out.below b2 (Nat.le_refl _))
  replace I_lc := hide (I_lc.out.below b2 (Nat.le_refl _))
  replace I_x := hide (I_x.out.below b2 (Nat.le_refl _))
  replace HB := hide (bmore HB.out b2)
  clear b2
  go_wp2_with fail
  refine (of_any a2 len2 cap2 lc _ I_lc.out (by omega)).mono ?_
  intro e w3 hans
  obtain ⟨a_z, n_z, c_z, rfl, i_z, b3⟩ := ans_n hans
  have N_z : n_z ≤ 40 := by have hq := i_z.1; have := ofL_len lc; have := I_lc.out.1; omega
  have I_z := hide i_z
  clear hans i_z
  replace I_la := hide (I_la.out.below b3 (Nat.le_refl _))
  replace I_lb := hide (I_lb.out.below b3 (Nat.le_refl _))
  replace I_lc := hide (I_lc.out.below b3 (Nat.le_refl _))
  replace I_x := hide (I_x.out.below b3 (Nat.le_refl _))
  replace I_y := hide (I_y.out.below b3 (Nat.le_refl _))
  replace HB := hide (bmore HB.out b3)
  clear b3
  clear I_la
  clear I_lb
  clear I_lc
  go_wp2_with fail
  refine (join_any _ _ _ _ _ _ _ _ _ I_x.out I_y.out (by omega) (by omega)).mono ?_
  intro e w4 hans
  obtain ⟨a_p, n_p, c_p, rfl, i_p, b4⟩ := ans_n hans
  have N_p : n_p ≤ 80 := by have hq := i_p.1; have h1 := I_x.out.1; have h2 := I_y.out.1; have := ofL_len (ofL la ++ ofL lb); rw [List.length_append] at this; omega
  have I_p := hide i_p
  clear hans i_p
  replace I_x := hide (I_x.out.below b4 (Nat.le_refl _))
  replace I_y := hide (I_y.out.below b4 (Nat.le_refl _))
  replace I_z := hide (I_z.out.below b4 (Nat.le_refl _))
  replace HB := hide (bmore HB.out b4)
  clear b4
  go_wp2_with fail
  refine (join_any _ _ _ _ _ _ _ _ _ I_y.out I_x.out (by omega) (by omega)).mono ?_
  intro e w5 hans
  obtain ⟨a_q, n_q, c_q, rfl, i_q, b5⟩ := ans_n hans
  have N_q : n_q ≤ 80 := by have hq := i_q.1; have h1 := I_y.out.1; have h2 := I_x.out.1; have := ofL_len (ofL lb ++ ofL la); rw [List.length_append] at this; omega
  have I_q := hide i_q
  clear hans i_q
  replace I_x := hide (I_x.out.below b5 (Nat.le_refl _))
  replace I_y := hide (I_y.out.below b5 (Nat.le_refl _))
  replace I_z := hide (I_z.out.below b5 (Nat.le_refl _))
  replace I_p := hide (I_p.out.below b5 (Nat.le_refl _))
  replace HB := hide (bmore HB.out b5)
  clear b5
  go_wp2_with fail
  refine (refequal_any _ _ _ _ _ _ _ _ _ I_p.out I_q.out (by omega) (by omega)).mono ?_
  rintro e w6 ⟨o, rfl, ho, b6⟩
  obtain rfl : o = true := ho.2 (ofL_congr (by intro z _; simp [or_comm]))
  clear ho
  replace I_x := hide (I_x.out.below b6 (Nat.le_refl _))
  replace I_y := hide (I_y.out.below b6 (Nat.le_refl _))
  replace I_z := hide (I_z.out.below b6 (Nat.le_refl _))
  replace I_p := hide (I_p.out.below b6 (Nat.le_refl _))
  replace I_q := hide (I_q.out.below b6 (Nat.le_refl _))
  replace HB := hide (bmore HB.out b6)
  clear b6
  clear I_q
  go_wp2_with fail
  refine (join_any _ _ _ _ _ _ _ _ _ I_p.out I_y.out (by omega) (by omega)).mono ?_
  intro e w7 hans
  obtain ⟨a_r, n_r, c_r, rfl, i_r, b7⟩ := ans_n hans
  have N_r : n_r ≤ 120 := by have hq := i_r.1; have h1 := I_p.out.1; have h2 := I_y.out.1; have := ofL_len (ofL (ofL la ++ ofL lb) ++ ofL lb); rw [List.length_append] at this; omega
  have I_r := hide i_r
  clear hans i_r
  replace I_x := hide (I_x.out.below b7 (Nat.le_refl _))
  replace I_y := hide (I_y.out.below b7 (Nat.le_refl _))
  replace I_z := hide (I_z.out.below b7 (Nat.le_refl _))
  replace I_p := hide (I_p.out.below b7 (Nat.le_refl _))
  replace HB := hide (bmore HB.out b7)
  clear b7
  go_wp2_with fail
  refine (refequal_any _ _ _ _ _ _ _ _ _ I_r.out I_p.out (by omega) (by omega)).mono ?_
  rintro e w8 ⟨o, rfl, ho, b8⟩
  obtain rfl : o = true := ho.2 (by rw [ofL_of]; exact ofL_congr (by intro z _; simp only [List.mem_append, or_assoc, or_self]))
  clear ho
  replace I_x := hide (I_x.out.below b8 (Nat.le_refl _))
  replace I_y := hide (I_y.out.below b8 (Nat.le_refl _))
  replace I_z := hide (I_z.out.below b8 (Nat.le_refl _))
  replace I_p := hide (I_p.out.below b8 (Nat.le_refl _))
  replace I_r := hide (I_r.out.below b8 (Nat.le_refl _))
  replace HB := hide (bmore HB.out b8)
  clear b8
  clear I_r
  go_wp2_with fail
  refine (join_any _ _ _ _ _ _ _ _ _ I_p.out I_z.out (by omega) (by omega)).mono ?_
  intro e w9 hans
  obtain ⟨a_s, n_s, c_s, rfl, i_s, b9⟩ := ans_n hans
  have N_s : n_s ≤ 120 := by have hq := i_s.1; have h1 := I_p.out.1; have h2 := I_z.out.1; have := ofL_len (ofL (ofL la ++ ofL lb) ++ ofL lc); rw [List.length_append] at this; omega
  have I_s := hide i_s
  clear hans i_s
  replace I_x := hide (I_x.out.below b9 (Nat.le_refl _))
  replace I_y := hide (I_y.out.below b9 (Nat.le_refl _))
  replace I_z := hide (I_z.out.below b9 (Nat.le_refl _))
  replace I_p := hide (I_p.out.below b9 (Nat.le_refl _))
  replace HB := hide (bmore HB.out b9)
  clear b9
  go_wp2_with fail
  refine (join_any _ _ _ _ _ _ _ _ _ I_y.out I_z.out (by omega) (by omega)).mono ?_
  intro e w10 hans
  obtain ⟨a_t, n_t, c_t, rfl, i_t, b10⟩ := ans_n hans
  have N_t : n_t ≤ 80 := by have hq := i_t.1; have h1 := I_y.out.1; have h2 := I_z.out.1; have := ofL_len (ofL lb ++ ofL lc); rw [List.length_append] at this; omega
  have I_t := hide i_t
  clear hans i_t
  replace I_x := hide (I_x.out.below b10 (Nat.le_refl _))
  replace I_y := hide (I_y.out.below b10 (Nat.le_refl _))
  replace I_z := hide (I_z.out.below b10 (Nat.le_refl _))
  replace I_p := hide (I_p.out.below b10 (Nat.le_refl _))
  replace I_s := hide (I_s.out.below b10 (Nat.le_refl _))
  replace HB := hide (bmore HB.out b10)
  clear b10
  go_wp2_with fail
  refine (join_any _ _ _ _ _ _ _ _ _ I_x.out I_t.out (by omega) (by omega)).mono ?_
  intro e w11 hans
  obtain ⟨a_u, n_u, c_u, rfl, i_u, b11⟩ := ans_n hans
  have N_u : n_u ≤ 120 := by have hq := i_u.1; have h1 := I_x.out.1; have h2 := I_t.out.1; have := ofL_len (ofL la ++ ofL (ofL lb ++ ofL lc)); rw [List.length_append] at this; omega
  have I_u := hide i_u
  clear hans i_u
  replace I_x := hide (I_x.out.below b11 (Nat.le_refl _))
  replace I_y := hide (I_y.out.below b11 (Nat.le_refl _))
  replace I_z := hide (I_z.out.below b11 (Nat.le_refl _))
  replace I_p := hide (I_p.out.below b11 (Nat.le_refl _))
  replace I_s := hide (I_s.out.below b11 (Nat.le_refl _))
  replace I_t := hide (I_t.out.below b11 (Nat.le_refl _))
  replace HB := hide (bmore HB.out b11)
  clear b11
  go_wp2_with fail
  refine (refequal_any _ _ _ _ _ _ _ _ _ I_s.out I_u.out (by omega) (by omega)).mono ?_
  rintro e w12 ⟨o, rfl, ho, b12⟩
  obtain rfl : o = true := ho.2 (by rw [ofL_of, List.append_assoc]; exact (ofL_of2 _ _).symm)
  clear ho
  replace I_x := hide (I_x.out.below b12 (Nat.le_refl _))
  replace I_y := hide (I_y.out.below b12 (Nat.le_refl _))
  replace I_z := hide (I_z.out.below b12 (Nat.le_refl _))
  replace I_p := hide (I_p.out.below b12 (Nat.le_refl _))
  replace I_s := hide (I_s.out.below b12 (Nat.le_refl _))
  replace I_t := hide (I_t.out.below b12 (Nat.le_refl _))
  replace I_u := hide (I_u.out.below b12 (Nat.le_refl _))
  replace HB := hide (bmore HB.out b12)
  clear b12
  clear I_s
  clear I_t
  clear I_u
  go_wp2_with fail
  refine (join_any _ _ _ _ _ _ _ _ _ I_x.out I_x.out (by omega) (by omega)).mono ?_
  intro e w13 hans
  obtain ⟨a_v, n_v, c_v, rfl, i_v, b13⟩ := ans_n hans
  have N_v : n_v ≤ 80 := by have hq := i_v.1; have h1 := I_x.out.1; have h2 := I_x.out.1; have := ofL_len (ofL la ++ ofL la); rw [List.length_append] at this; omega
  have I_v := hide i_v
  clear hans i_v
  replace I_x := hide (I_x.out.below b13 (Nat.le_refl _))
  replace I_y := hide (I_y.out.below b13 (Nat.le_refl _))
  replace I_z := hide (I_z.out.below b13 (Nat.le_refl _))
  replace I_p := hide (I_p.out.below b13 (Nat.le_refl _))
  replace HB := hide (bmore HB.out b13)
  clear b13
  go_wp2_with fail
  refine (refequal_any _ _ _ _ _ _ _ _ _ I_v.out I_x.out (by omega) (by omega)).mono ?_
  rintro e w14 ⟨o, rfl, ho, b14⟩
  obtain rfl : o = true := ho.2 (by rw [ofL_congr (m := ofL la) (by intro z _; simp only [List.mem_append, or_self])]; exact ofL_same la)
  clear ho
  replace I_x := hide (I_x.out.below b14 (Nat.le_refl _))
  replace I_y := hide (I_y.out.below b14 (Nat.le_refl _))
  replace I_z := hide (I_z.out.below b14 (Nat.le_refl _))
  replace I_p := hide (I_p.out.below b14 (Nat.le_refl _))
  replace I_v := hide (I_v.out.below b14 (Nat.le_refl _))
  replace HB := hide (bmore HB.out b14)
  clear b14
  clear I_v
  go_wp2_with fail
  refine (join_any none _ 0 0 _ _ [] _ _ (is_nil _) I_x.out (by omega) (by omega)).mono ?_
  intro e w15 hans
  obtain ⟨a_v, n_v, c_v, rfl, i_v, b15⟩ := ans_n hans
  have N_v : n_v ≤ 40 := by have hq := i_v.1; have h2 := I_x.out.1; have := ofL_len ([] ++ ofL la); have e9 : ([] ++ ofL la).length = (ofL la).length := rfl; omega
  have I_v := hide i_v
  clear hans i_v
  replace I_x := hide (I_x.out.below b15 (Nat.le_refl _))
  replace I_y := hide (I_y.out.below b15 (Nat.le_refl _))
  replace I_z := hide (I_z.out.below b15 (Nat.le_refl _))
  replace I_p := hide (I_p.out.below b15 (Nat.le_refl _))
  replace HB := hide (bmore HB.out b15)
  clear b15
  go_wp2_with fail
  refine (refequal_any _ _ _ _ _ _ _ _ _ I_v.out I_x.out (by omega) (by omega)).mono ?_
  rintro e w16 ⟨o, rfl, ho, b16⟩
  obtain rfl : o = true := ho.2 (ofL_same la)
  clear ho
  replace I_x := hide (I_x.out.below b16 (Nat.le_refl _))
  replace I_y := hide (I_y.out.below b16 (Nat.le_refl _))
  replace I_z := hide (I_z.out.below b16 (Nat.le_refl _))
  replace I_p := hide (I_p.out.below b16 (Nat.le_refl _))
  replace I_v := hide (I_v.out.below b16 (Nat.le_refl _))
  replace HB := hide (bmore HB.out b16)
  clear b16
  clear I_v
  go_wp2_with fail
  refine (sok_any _ _ _ _ _ I_p.out (by omega)).mono ?_
  rw [show stB (ofL (ofL la ++ ofL lb)) = true from stB_iff.2 (ofL_stP _)]
  rintro e w17 ⟨rfl, b17⟩
  replace I_x := hide (I_x.out.below b17 (Nat.le_refl _))
  replace I_y := hide (I_y.out.below b17 (Nat.le_refl _))
  replace I_z := hide (I_z.out.below b17 (Nat.le_refl _))
  replace I_p := hide (I_p.out.below b17 (Nat.le_refl _))
  replace HB := hide (bmore HB.out b17)
  clear b17
  go_wp2_with fail
  refine (awake6_any _).mono ?_
  rintro e w18 ⟨rfl, b18⟩
  replace I_x := hide (I_x.out.below b18 (Nat.le_refl _))
  replace I_y := hide (I_y.out.below b18 (Nat.le_refl _))
  replace I_z := hide (I_z.out.below b18 (Nat.le_refl _))
  replace I_p := hide (I_p.out.below b18 (Nat.le_refl _))
  replace HB := hide (bmore HB.out b18)
  clear b18
  go_wp2
  go_ret
  exact ⟨rfl, HB.out⟩

end Go.Proofs.Ytckfgpcoingphaa.Clep
