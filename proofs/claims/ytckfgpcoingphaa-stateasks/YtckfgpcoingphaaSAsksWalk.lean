/- StateAsks, walked: for any list and any numbers. No conditions. -/
import Derived.Test.YtckfgpcoingphaaSRefOf
import Derived.Test.YtckfgpcoingphaaSRefAsk
import Derived.Test.YtckfgpcoingphaaSLaw
namespace Go.Proofs.Ytckfgpcoingphaa.Clep
open Go.RowKit
set_option linter.unusedVariables false

theorem filter_get {l : List It} (h : Rise l) (s t : Int) : l.filter (rangeP s t t) = (getL l s t).toList := by
  have e : rangeP s t t = getP s t := by
    funext x
    unfold rangeP getP sampP
    rw [Bool.eq_iff_iff]
    simp only [decide_eq_true_eq, Bool.and_eq_true, beq_iff_eq]
    omega
  rw [e]
  unfold getL
  induction l with
  | nil => rfl
  | cons a r ih =>
    rw [Rise, List.pairwise_cons] at h
    rw [List.filter_cons, List.find?_cons]
    cases hp : getP s t a with
    | true =>
      have hr : r.filter (getP s t) = [] := by
        rw [List.filter_eq_nil_iff]
        intro y hy hy2
        have := h.1 y hy
        unfold getP sampP at hp hy2
        simp only [decide_eq_true_eq, Bool.and_eq_true, beq_iff_eq] at hp hy2
        rw [less_iff] at this
        omega
      simp [hr]
    | false => simpa using ih h.2

set_option maxRecDepth 4000 in
set_option maxHeartbeats 40000000 in
theorem asks_walk (a0 : Option Addr) (len0 cap0 : Nat) (l : List It) (s lo hi v : Int) (w : World) (h0 : Is w a0 len0 cap0 l) (hm0 : len0 ≤ 9223372036854775807) :
    Calls Try.prog 7 #[.slice a0 len0 cap0, .int .i64 s, .int .u64 lo, .int .u64 hi, .int .u64 v] w fun e w' => e = .returned (.bool true) ∧ Below w.heap.size w w' := by
  have I_l := hide h0
  clear h0
  by_cases hlong : 60 < len0
  · go_enter Try.func7, Try.ntmps7
    go_wp2_with fail
    refine (awake6_any _).mono ?_
    rintro e w1 ⟨rfl, b1⟩
    go_wp2
    go_ret
    exact ⟨rfl, b1⟩
  have HB := hide (Below.refl w.heap.size w)
  have hLA : Hid (l.length = len0) := hide I_l.out.1
  go_enter Try.func7, Try.ntmps7
  go_wp2_with fail
  refine (refof_any a0 len0 cap0 l _ I_l.out (by omega)).mono ?_
  intro e w1 hans
  obtain ⟨a_q, n_q, c_q, rfl, i_q, b1⟩ := ans_n hans
  have N_q : n_q ≤ 60 := by have hq := i_q.1; have := ofL_len l; have := hLA.out; omega
  have I_q := hide i_q
  clear hans i_q
  replace I_l := hide (I_l.out.below b1 (Nat.le_refl _))
  replace HB := hide (bmore HB.out b1)
  clear b1
  have HL := hide (fun W (hW : Below w1.heap.size w1 W) => I_l.out.below hW (Nat.le_refl _))
  have HQ := hide (fun W (hW : Below w1.heap.size w1 W) => I_q.out.below hW (Nat.le_refl _))
  have HW1 := hide HB.out
  clear I_l I_q HB
  go_wp2_with fail
  go_loopw [12] (fun si wr => ∃ i : Nat, i ≤ 2 ∧ si = .int .i64 i ∧ Hid (Below w1.heap.size w1 wr)) (fun si _ => 2 - (intOf si).toNat)
  case atStart => exact ⟨0, by omega, rfl, hide (Below.refl _ _)⟩
  case round =>
    obtain ⟨i, hile, rfl, hbel⟩ := hrel
    have hi3 : (i < 2 ∧ ¬ i = 1) ∨ (i < 2 ∧ i = 1) ∨ ¬ i < 2 := by omega
    rcases hi3 with ⟨hi2, hi1⟩ | ⟨hi2, hi1⟩ | hi2
    · have hb1 : ((i : Int) == 1) = false := by simp; omega
      have hi2z : (i : Int) < 2 := by omega
      clear hi1
      have I_A := hide (HL.out _ hbel.out)
      have HB := hide hbel.out
      go_wp2_with fail
      refine (series_any a0 len0 cap0 (l) s _ I_A.out (by omega)).mono ?_
      intro e w2 hans
      obtain ⟨a_u, n_u, c_u, rfl, i_u, b2⟩ := ans_n hans
      have N_u : n_u ≤ 60 := by have hq := i_u.1; have := List.length_filter_le (fun x => x.S == s) (l); have := hLA.out; omega
      have I_u := hide i_u
      clear hans i_u
      replace I_A := hide (I_A.out.below b2 (Nat.le_refl _))
      replace HB := hide (bmore HB.out b2)
      clear b2
      go_wp2_with fail
      refine (refseries_any a0 len0 cap0 (l) s _ I_A.out (by omega)).mono ?_
      intro e w3 hans
      obtain ⟨a_v, n_v, c_v, rfl, i_v, b3⟩ := ans_n hans
      have N_v : n_v ≤ 60 := by have hq := i_v.1; have := List.length_filter_le (fun x => x.S == s) (l); have := hLA.out; omega
      have I_v := hide i_v
      clear hans i_v
      replace I_A := hide (I_A.out.below b3 (Nat.le_refl _))
      replace I_u := hide (I_u.out.below b3 (Nat.le_refl _))
      replace HB := hide (bmore HB.out b3)
      clear b3
      go_wp2_with fail
      refine (refequal_any _ _ _ _ _ _ _ _ _ I_u.out I_v.out (by omega) (by omega)).mono ?_
      rintro e w4 ⟨o, rfl, ho, b4⟩
      obtain rfl : o = true := ho.2 (rfl)
      clear ho
      replace I_A := hide (I_A.out.below b4 (Nat.le_refl _))
      replace I_u := hide (I_u.out.below b4 (Nat.le_refl _))
      replace I_v := hide (I_v.out.below b4 (Nat.le_refl _))
      replace HB := hide (bmore HB.out b4)
      clear b4
      clear I_u
      clear I_v
      go_wp2_with fail
      refine (range_any a0 len0 cap0 (l) s lo hi _ I_A.out (by omega)).mono ?_
      intro e w5 hans
      obtain ⟨a_u, n_u, c_u, rfl, i_u, b5⟩ := ans_n hans
      have N_u : n_u ≤ 60 := by have hq := i_u.1; have := List.length_filter_le (rangeP s lo hi) (l); have := hLA.out; omega
      have I_u := hide i_u
      clear hans i_u
      replace I_A := hide (I_A.out.below b5 (Nat.le_refl _))
      replace HB := hide (bmore HB.out b5)
      clear b5
      go_wp2_with fail
      refine (refrange_any a0 len0 cap0 (l) s lo hi _ I_A.out (by omega)).mono ?_
      intro e w6 hans
      obtain ⟨a_v, n_v, c_v, rfl, i_v, b6⟩ := ans_n hans
      have N_v : n_v ≤ 60 := by have hq := i_v.1; have := List.length_filter_le (rangeP s lo hi) (l); have := hLA.out; omega
      have I_v := hide i_v
      clear hans i_v
      replace I_A := hide (I_A.out.below b6 (Nat.le_refl _))
      replace I_u := hide (I_u.out.below b6 (Nat.le_refl _))
      replace HB := hide (bmore HB.out b6)
      clear b6
      go_wp2_with fail
      refine (refequal_any _ _ _ _ _ _ _ _ _ I_u.out I_v.out (by omega) (by omega)).mono ?_
      rintro e w7 ⟨o, rfl, ho, b7⟩
      obtain rfl : o = true := ho.2 (rfl)
      clear ho
      replace I_A := hide (I_A.out.below b7 (Nat.le_refl _))
      replace I_u := hide (I_u.out.below b7 (Nat.le_refl _))
      replace I_v := hide (I_v.out.below b7 (Nat.le_refl _))
      replace HB := hide (bmore HB.out b7)
      clear b7
      clear I_u
      clear I_v
      go_wp2_with fail
      refine (upto_any a0 len0 cap0 (l) v _ I_A.out (by omega)).mono ?_
      intro e w8 hans
      obtain ⟨a_u, n_u, c_u, rfl, i_u, b8⟩ := ans_n hans
      have N_u : n_u ≤ 60 := by have hq := i_u.1; have := List.length_filter_le (fun x => decide (x.V ≤ v)) (l); have := hLA.out; omega
      have I_u := hide i_u
      clear hans i_u
      replace I_A := hide (I_A.out.below b8 (Nat.le_refl _))
      replace HB := hide (bmore HB.out b8)
      clear b8
      go_wp2_with fail
      refine (refupto_any a0 len0 cap0 (l) v _ I_A.out (by omega)).mono ?_
      intro e w9 hans
      obtain ⟨a_v, n_v, c_v, rfl, i_v, b9⟩ := ans_n hans
      have N_v : n_v ≤ 60 := by have hq := i_v.1; have := List.length_filter_le (fun x => decide (x.V ≤ v)) (l); have := hLA.out; omega
      have I_v := hide i_v
      clear hans i_v
      replace I_A := hide (I_A.out.below b9 (Nat.le_refl _))
      replace I_u := hide (I_u.out.below b9 (Nat.le_refl _))
      replace HB := hide (bmore HB.out b9)
      clear b9
      go_wp2_with fail
      refine (refequal_any _ _ _ _ _ _ _ _ _ I_u.out I_v.out (by omega) (by omega)).mono ?_
      rintro e w10 ⟨o, rfl, ho, b10⟩
      obtain rfl : o = true := ho.2 (rfl)
      clear ho
      replace I_A := hide (I_A.out.below b10 (Nat.le_refl _))
      replace I_u := hide (I_u.out.below b10 (Nat.le_refl _))
      replace I_v := hide (I_v.out.below b10 (Nat.le_refl _))
      replace HB := hide (bmore HB.out b10)
      clear b10
      clear I_u
      clear I_v
      go_wp2_with fail
      refine (purge_any a0 len0 cap0 (l) v _ I_A.out (by omega)).mono ?_
      intro e w11 hans
      obtain ⟨a_u, n_u, c_u, rfl, i_u, b11⟩ := ans_n hans
      have N_u : n_u ≤ 60 := by have hq := i_u.1; have := List.length_filter_le (purgeP v) (l); have := hLA.out; omega
      have I_u := hide i_u
      clear hans i_u
      replace I_A := hide (I_A.out.below b11 (Nat.le_refl _))
      replace HB := hide (bmore HB.out b11)
      clear b11
      go_wp2_with fail
      refine (refpurge_any a0 len0 cap0 (l) v _ I_A.out (by omega)).mono ?_
      intro e w12 hans
      obtain ⟨a_v, n_v, c_v, rfl, i_v, b12⟩ := ans_n hans
      have N_v : n_v ≤ 60 := by have hq := i_v.1; have := List.length_filter_le (purgeP v) (l); have := hLA.out; omega
      have I_v := hide i_v
      clear hans i_v
      replace I_A := hide (I_A.out.below b12 (Nat.le_refl _))
      replace I_u := hide (I_u.out.below b12 (Nat.le_refl _))
      replace HB := hide (bmore HB.out b12)
      clear b12
      go_wp2_with fail
      refine (refequal_any _ _ _ _ _ _ _ _ _ I_u.out I_v.out (by omega) (by omega)).mono ?_
      rintro e w13 ⟨o, rfl, ho, b13⟩
      obtain rfl : o = true := ho.2 (rfl)
      clear ho
      replace I_A := hide (I_A.out.below b13 (Nat.le_refl _))
      replace I_u := hide (I_u.out.below b13 (Nat.le_refl _))
      replace I_v := hide (I_v.out.below b13 (Nat.le_refl _))
      replace HB := hide (bmore HB.out b13)
      clear b13
      clear I_u
      clear I_v
      obtain ⟨tp, htp⟩ : ∃ t, topL (l) = t := ⟨_, rfl⟩
      have HTP := hide htp
      clear htp
      go_wp2_with fail
      refine (top_any a0 len0 cap0 (l) _ I_A.out (by omega)).mono ?_
      rw [HTP.out]
      rintro e w14 ⟨rfl, b14⟩
      replace I_A := hide (I_A.out.below b14 (Nat.le_refl _))
      replace HB := hide (bmore HB.out b14)
      clear b14
      go_wp2_with fail
      refine (reftop_any a0 len0 cap0 (l) _ I_A.out (by omega)).mono ?_
      rw [HTP.out]
      rintro e w15 ⟨rfl, b15⟩
      replace I_A := hide (I_A.out.below b15 (Nat.le_refl _))
      replace HB := hide (bmore HB.out b15)
      clear b15
      have htn : (tp != tp) = false := by simp
      go_wp2
      go_roundw
      case rel => exact ⟨i + 1, by omega, by go_num, HB⟩
      case measure => simp [intOf]; omega
    · have hb1 : ((i : Int) == 1) = true := by simp; omega
      have hi2z : (i : Int) < 2 := by omega
      clear hi1
      have I_A := hide (HQ.out _ hbel.out)
      have HB := hide hbel.out
      go_wp2_with fail
      refine (series_any a_q n_q c_q (ofL l) s _ I_A.out (by omega)).mono ?_
      intro e w2 hans
      obtain ⟨a_u, n_u, c_u, rfl, i_u, b2⟩ := ans_n hans
      have N_u : n_u ≤ 60 := by have hq := i_u.1; have := List.length_filter_le (fun x => x.S == s) (ofL l); have := ofL_len l; have := hLA.out; omega
      have I_u := hide i_u
      clear hans i_u
      replace I_A := hide (I_A.out.below b2 (Nat.le_refl _))
      replace HB := hide (bmore HB.out b2)
      clear b2
      go_wp2_with fail
      refine (refseries_any a_q n_q c_q (ofL l) s _ I_A.out (by omega)).mono ?_
      intro e w3 hans
      obtain ⟨a_v, n_v, c_v, rfl, i_v, b3⟩ := ans_n hans
      have N_v : n_v ≤ 60 := by have hq := i_v.1; have := List.length_filter_le (fun x => x.S == s) (ofL l); have := ofL_len l; have := hLA.out; omega
      have I_v := hide i_v
      clear hans i_v
      replace I_A := hide (I_A.out.below b3 (Nat.le_refl _))
      replace I_u := hide (I_u.out.below b3 (Nat.le_refl _))
      replace HB := hide (bmore HB.out b3)
      clear b3
      go_wp2_with fail
      refine (refequal_any _ _ _ _ _ _ _ _ _ I_u.out I_v.out (by omega) (by omega)).mono ?_
      rintro e w4 ⟨o, rfl, ho, b4⟩
      obtain rfl : o = true := ho.2 (rfl)
      clear ho
      replace I_A := hide (I_A.out.below b4 (Nat.le_refl _))
      replace I_u := hide (I_u.out.below b4 (Nat.le_refl _))
      replace I_v := hide (I_v.out.below b4 (Nat.le_refl _))
      replace HB := hide (bmore HB.out b4)
      clear b4
      clear I_u
      clear I_v
      go_wp2_with fail
      refine (range_any a_q n_q c_q (ofL l) s lo hi _ I_A.out (by omega)).mono ?_
      intro e w5 hans
      obtain ⟨a_u, n_u, c_u, rfl, i_u, b5⟩ := ans_n hans
      have N_u : n_u ≤ 60 := by have hq := i_u.1; have := List.length_filter_le (rangeP s lo hi) (ofL l); have := ofL_len l; have := hLA.out; omega
      have I_u := hide i_u
      clear hans i_u
      replace I_A := hide (I_A.out.below b5 (Nat.le_refl _))
      replace HB := hide (bmore HB.out b5)
      clear b5
      go_wp2_with fail
      refine (refrange_any a_q n_q c_q (ofL l) s lo hi _ I_A.out (by omega)).mono ?_
      intro e w6 hans
      obtain ⟨a_v, n_v, c_v, rfl, i_v, b6⟩ := ans_n hans
      have N_v : n_v ≤ 60 := by have hq := i_v.1; have := List.length_filter_le (rangeP s lo hi) (ofL l); have := ofL_len l; have := hLA.out; omega
      have I_v := hide i_v
      clear hans i_v
      replace I_A := hide (I_A.out.below b6 (Nat.le_refl _))
      replace I_u := hide (I_u.out.below b6 (Nat.le_refl _))
      replace HB := hide (bmore HB.out b6)
      clear b6
      go_wp2_with fail
      refine (refequal_any _ _ _ _ _ _ _ _ _ I_u.out I_v.out (by omega) (by omega)).mono ?_
      rintro e w7 ⟨o, rfl, ho, b7⟩
      obtain rfl : o = true := ho.2 (rfl)
      clear ho
      replace I_A := hide (I_A.out.below b7 (Nat.le_refl _))
      replace I_u := hide (I_u.out.below b7 (Nat.le_refl _))
      replace I_v := hide (I_v.out.below b7 (Nat.le_refl _))
      replace HB := hide (bmore HB.out b7)
      clear b7
      clear I_u
      clear I_v
      go_wp2_with fail
      refine (upto_any a_q n_q c_q (ofL l) v _ I_A.out (by omega)).mono ?_
      intro e w8 hans
      obtain ⟨a_u, n_u, c_u, rfl, i_u, b8⟩ := ans_n hans
      have N_u : n_u ≤ 60 := by have hq := i_u.1; have := List.length_filter_le (fun x => decide (x.V ≤ v)) (ofL l); have := ofL_len l; have := hLA.out; omega
      have I_u := hide i_u
      clear hans i_u
      replace I_A := hide (I_A.out.below b8 (Nat.le_refl _))
      replace HB := hide (bmore HB.out b8)
      clear b8
      go_wp2_with fail
      refine (refupto_any a_q n_q c_q (ofL l) v _ I_A.out (by omega)).mono ?_
      intro e w9 hans
      obtain ⟨a_v, n_v, c_v, rfl, i_v, b9⟩ := ans_n hans
      have N_v : n_v ≤ 60 := by have hq := i_v.1; have := List.length_filter_le (fun x => decide (x.V ≤ v)) (ofL l); have := ofL_len l; have := hLA.out; omega
      have I_v := hide i_v
      clear hans i_v
      replace I_A := hide (I_A.out.below b9 (Nat.le_refl _))
      replace I_u := hide (I_u.out.below b9 (Nat.le_refl _))
      replace HB := hide (bmore HB.out b9)
      clear b9
      go_wp2_with fail
      refine (refequal_any _ _ _ _ _ _ _ _ _ I_u.out I_v.out (by omega) (by omega)).mono ?_
      rintro e w10 ⟨o, rfl, ho, b10⟩
      obtain rfl : o = true := ho.2 (rfl)
      clear ho
      replace I_A := hide (I_A.out.below b10 (Nat.le_refl _))
      replace I_u := hide (I_u.out.below b10 (Nat.le_refl _))
      replace I_v := hide (I_v.out.below b10 (Nat.le_refl _))
      replace HB := hide (bmore HB.out b10)
      clear b10
      clear I_u
      clear I_v
      go_wp2_with fail
      refine (purge_any a_q n_q c_q (ofL l) v _ I_A.out (by omega)).mono ?_
      intro e w11 hans
      obtain ⟨a_u, n_u, c_u, rfl, i_u, b11⟩ := ans_n hans
      have N_u : n_u ≤ 60 := by have hq := i_u.1; have := List.length_filter_le (purgeP v) (ofL l); have := ofL_len l; have := hLA.out; omega
      have I_u := hide i_u
      clear hans i_u
      replace I_A := hide (I_A.out.below b11 (Nat.le_refl _))
      replace HB := hide (bmore HB.out b11)
      clear b11
      go_wp2_with fail
      refine (refpurge_any a_q n_q c_q (ofL l) v _ I_A.out (by omega)).mono ?_
      intro e w12 hans
      obtain ⟨a_v, n_v, c_v, rfl, i_v, b12⟩ := ans_n hans
      have N_v : n_v ≤ 60 := by have hq := i_v.1; have := List.length_filter_le (purgeP v) (ofL l); have := ofL_len l; have := hLA.out; omega
      have I_v := hide i_v
      clear hans i_v
      replace I_A := hide (I_A.out.below b12 (Nat.le_refl _))
      replace I_u := hide (I_u.out.below b12 (Nat.le_refl _))
      replace HB := hide (bmore HB.out b12)
      clear b12
      go_wp2_with fail
      refine (refequal_any _ _ _ _ _ _ _ _ _ I_u.out I_v.out (by omega) (by omega)).mono ?_
      rintro e w13 ⟨o, rfl, ho, b13⟩
      obtain rfl : o = true := ho.2 (rfl)
      clear ho
      replace I_A := hide (I_A.out.below b13 (Nat.le_refl _))
      replace I_u := hide (I_u.out.below b13 (Nat.le_refl _))
      replace I_v := hide (I_v.out.below b13 (Nat.le_refl _))
      replace HB := hide (bmore HB.out b13)
      clear b13
      clear I_u
      clear I_v
      obtain ⟨tp, htp⟩ : ∃ t, topL (ofL l) = t := ⟨_, rfl⟩
      have HTP := hide htp
      clear htp
      go_wp2_with fail
      refine (top_any a_q n_q c_q (ofL l) _ I_A.out (by omega)).mono ?_
      rw [HTP.out]
      rintro e w14 ⟨rfl, b14⟩
      replace I_A := hide (I_A.out.below b14 (Nat.le_refl _))
      replace HB := hide (bmore HB.out b14)
      clear b14
      go_wp2_with fail
      refine (reftop_any a_q n_q c_q (ofL l) _ I_A.out (by omega)).mono ?_
      rw [HTP.out]
      rintro e w15 ⟨rfl, b15⟩
      replace I_A := hide (I_A.out.below b15 (Nat.le_refl _))
      replace HB := hide (bmore HB.out b15)
      clear b15
      have htn : (tp != tp) = false := by simp
      go_wp2
      go_roundw
      case rel => exact ⟨i + 1, by omega, by go_num, HB⟩
      case measure => simp [intOf]; omega
    · have hi2z : ¬ (i : Int) < 2 := by omega
      have I_q := hide (HQ.out _ hbel.out)
      have HB := hide hbel.out
      have hfl := hide (filter_get (ofL_stP l).1 s lo)
      obtain ⟨gt, hgt⟩ : ∃ t, getL (ofL l) s lo = t := ⟨_, rfl⟩
      rw [hgt] at hfl
      have HGT := hide hgt
      clear hgt
      cases gt with
      | none =>
        go_wp2_with fail
        refine (get_any a_q n_q c_q (ofL l) s lo _ I_q.out (by omega)).mono ?_
        rw [HGT.out]
        rintro e w2 ⟨rfl, b2⟩
        replace I_q := hide (I_q.out.below b2 (Nat.le_refl _))
        replace HB := hide (bmore HB.out b2)
        clear b2
        simp only [Option.getD_none, Option.isSome_none, cv, it0]
        have D2 : Below w2.heap.size w2 (w2.alloc (Obj.cells #[Value.int IntKind.i64 0, Value.int IntKind.i64 0, Value.int IntKind.u64 0, Value.int IntKind.u64 0, Value.int IntKind.i64 0] 29)) := (Below.refl _ _).alloc (Nat.le_refl _) _
        have V_x := hide (vi_new w2 0 0 0 0 0)
        replace I_q := hide (I_q.out.below D2 (Nat.le_refl _))
        replace HB := hide (bmore HB.out D2)
        clear D2
        go_wp2_with fail
        refine (refrange_any a_q n_q c_q (ofL l) s lo lo _ I_q.out (by omega)).mono ?_
        intro e w3 hans
        obtain ⟨a_r, n_r, c_r, rfl, i_r, b3⟩ := ans_n hans
        rw [hfl.out] at i_r
        obtain rfl : 0 = n_r := i_r.1
        have I_r := hide i_r
        clear hans i_r
        replace I_q := hide (I_q.out.below b3 (Nat.le_refl _))
        replace V_x := hide (V_x.out.keep b3)
        replace HB := hide (bmore HB.out b3)
        clear b3
        have d0 : ∀ p : Kp w3, p.W.cell? ⟨w2.heap.size, 0, none⟩ = some (.int .i64 0) := fun p => (V_x.out.keep p.h).1
        have d1 : ∀ p : Kp w3, p.W.cell? ⟨w2.heap.size, 1, none⟩ = some (.int .i64 0) := fun p => (V_x.out.keep p.h).2.1
        have d2 : ∀ p : Kp w3, p.W.cell? ⟨w2.heap.size, 2, none⟩ = some (.int .u64 0) := fun p => (V_x.out.keep p.h).2.2.1
        have d3 : ∀ p : Kp w3, p.W.cell? ⟨w2.heap.size, 3, none⟩ = some (.int .u64 0) := fun p => (V_x.out.keep p.h).2.2.2.1
        have d4 : ∀ p : Kp w3, p.W.cell? ⟨w2.heap.size, 4, none⟩ = some (.int .i64 0) := fun p => (V_x.out.keep p.h).2.2.2.2
        have hne : Nonempty (Kp w3) := ⟨⟨_, Below.refl _ _⟩⟩
        go_wp2_with fail
        refine wp_region_kept (by kernel_rfl) (by kernel_rfl) ?_
        repeat (first
          | go_big_quiet_step (fail)
          | fail)
        refine wpQuiet_nil ?_
        intro w99 hw'
        have b99 : Below w3.heap.size w3 w99 := by
          obtain ⟨⟨w3', hb3⟩, hw''⟩ := hw'
          rw [hw'']; exact hb3
        clear hw' hne d0 d1 d2 d3 d4
        replace I_q := hide (I_q.out.below b99 (Nat.le_refl _))
        replace HB := hide (bmore HB.out b99)
        clear b99 V_x I_r
        obtain ⟨tm, htm⟩ : ∃ t, tombL (ofL l) s = t := ⟨_, rfl⟩
        have HTM := hide htm
        clear htm
        go_wp2_with fail
        refine (tomb_any a_q n_q c_q (ofL l) s _ I_q.out (by omega)).mono ?_
        rw [HTM.out]
        rintro e w4 ⟨rfl, b4⟩
        replace I_q := hide (I_q.out.below b4 (Nat.le_refl _))
        replace HB := hide (bmore HB.out b4)
        clear b4
        go_wp2_with fail
        refine (reftomb_any a_q n_q c_q (ofL l) s _ I_q.out (by omega)).mono ?_
        rw [HTM.out]
        rintro e w5 ⟨rfl, b5⟩
        replace I_q := hide (I_q.out.below b5 (Nat.le_refl _))
        replace HB := hide (bmore HB.out b5)
        clear b5
        have htn : (tm == tm) = true := by simp
        go_wp2_with fail
        refine (awake6_any _).mono ?_
        rintro e w6 ⟨rfl, b6⟩
        replace I_q := hide (I_q.out.below b6 (Nat.le_refl _))
        replace HB := hide (bmore HB.out b6)
        clear b6
        replace HB := hide (bmore HW1.out HB.out)
        go_wp2
        go_ret
        exact ⟨rfl, HB.out⟩
      | some x =>
        obtain ⟨xS, xK, xT, xV, xX⟩ := x
        go_wp2_with fail
        refine (get_any a_q n_q c_q (ofL l) s lo _ I_q.out (by omega)).mono ?_
        rw [HGT.out]
        rintro e w2 ⟨rfl, b2⟩
        replace I_q := hide (I_q.out.below b2 (Nat.le_refl _))
        replace HB := hide (bmore HB.out b2)
        clear b2
        simp only [Option.getD_some, Option.isSome_some, cv]
        have D2 : Below w2.heap.size w2 (w2.alloc (Obj.cells #[Value.int IntKind.i64 xS, Value.int IntKind.i64 xK, Value.int IntKind.u64 xT, Value.int IntKind.u64 xV, Value.int IntKind.i64 xX] 29)) := (Below.refl _ _).alloc (Nat.le_refl _) _
        have V_x := hide (vi_new w2 xS xK xT xV xX)
        replace I_q := hide (I_q.out.below D2 (Nat.le_refl _))
        replace HB := hide (bmore HB.out D2)
        clear D2
        go_wp2_with fail
        refine (refrange_any a_q n_q c_q (ofL l) s lo lo _ I_q.out (by omega)).mono ?_
        intro e w3 hans
        obtain ⟨a_r, n_r, c_r, rfl, i_r, b3⟩ := ans_n hans
        rw [hfl.out] at i_r
        obtain rfl : 1 = n_r := i_r.1
        have I_r := hide i_r
        clear hans i_r
        replace I_q := hide (I_q.out.below b3 (Nat.le_refl _))
        replace V_x := hide (V_x.out.keep b3)
        replace HB := hide (bmore HB.out b3)
        clear b3
        have d0 : ∀ p : Kp w3, p.W.cell? ⟨w2.heap.size, 0, none⟩ = some (.int .i64 xS) := fun p => (V_x.out.keep p.h).1
        have d1 : ∀ p : Kp w3, p.W.cell? ⟨w2.heap.size, 1, none⟩ = some (.int .i64 xK) := fun p => (V_x.out.keep p.h).2.1
        have d2 : ∀ p : Kp w3, p.W.cell? ⟨w2.heap.size, 2, none⟩ = some (.int .u64 xT) := fun p => (V_x.out.keep p.h).2.2.1
        have d3 : ∀ p : Kp w3, p.W.cell? ⟨w2.heap.size, 3, none⟩ = some (.int .u64 xV) := fun p => (V_x.out.keep p.h).2.2.2.1
        have d4 : ∀ p : Kp w3, p.W.cell? ⟨w2.heap.size, 4, none⟩ = some (.int .i64 xX) := fun p => (V_x.out.keep p.h).2.2.2.2
        obtain ⟨br, offr, er, hcr⟩ := I_r.out.2.2.2 (by omega)
        subst er
        have hvr := hide (hcr 0 _ rfl)
        unfold Vt at hvr
        simp only [Nat.zero_mul, Nat.add_zero] at hvr
        clear hcr
        have f0 : ∀ p : Kp w3, p.W.cell? ⟨br, offr, none⟩ = some (.int .i64 xS) := fun p => (hvr.out.keep p.h).1
        have f1 : ∀ p : Kp w3, p.W.cell? ⟨br, offr + 1, none⟩ = some (.int .i64 xK) := fun p => (hvr.out.keep p.h).2.1
        have f2 : ∀ p : Kp w3, p.W.cell? ⟨br, offr + 2, none⟩ = some (.int .u64 xT) := fun p => (hvr.out.keep p.h).2.2.1
        have f3 : ∀ p : Kp w3, p.W.cell? ⟨br, offr + 3, none⟩ = some (.int .u64 xV) := fun p => (hvr.out.keep p.h).2.2.2.1
        have f4 : ∀ p : Kp w3, p.W.cell? ⟨br, offr + 4, none⟩ = some (.int .i64 xX) := fun p => (hvr.out.keep p.h).2.2.2.2
        have hne : Nonempty (Kp w3) := ⟨⟨_, Below.refl _ _⟩⟩
        go_wp2_with fail
        refine wp_region_kept (by kernel_rfl) (by kernel_rfl) ?_
        repeat (first
          | go_big_quiet_step (fail)
          | fail)
        refine wpQuiet_nil ?_
        intro w99 hw'
        have b99 : Below w3.heap.size w3 w99 := by
          obtain ⟨⟨w3', hb3⟩, hw''⟩ := hw'
          rw [hw'']; exact hb3
        clear hw' hne d0 d1 d2 d3 d4 f0 f1 f2 f3 f4
        replace I_q := hide (I_q.out.below b99 (Nat.le_refl _))
        replace HB := hide (bmore HB.out b99)
        clear b99 V_x I_r
        obtain ⟨tm, htm⟩ : ∃ t, tombL (ofL l) s = t := ⟨_, rfl⟩
        have HTM := hide htm
        clear htm
        go_wp2_with fail
        refine (tomb_any a_q n_q c_q (ofL l) s _ I_q.out (by omega)).mono ?_
        rw [HTM.out]
        rintro e w4 ⟨rfl, b4⟩
        replace I_q := hide (I_q.out.below b4 (Nat.le_refl _))
        replace HB := hide (bmore HB.out b4)
        clear b4
        go_wp2_with fail
        refine (reftomb_any a_q n_q c_q (ofL l) s _ I_q.out (by omega)).mono ?_
        rw [HTM.out]
        rintro e w5 ⟨rfl, b5⟩
        replace I_q := hide (I_q.out.below b5 (Nat.le_refl _))
        replace HB := hide (bmore HB.out b5)
        clear b5
        have htn : (tm == tm) = true := by simp
        go_wp2_with fail
        refine (awake6_any _).mono ?_
        rintro e w6 ⟨rfl, b6⟩
        replace I_q := hide (I_q.out.below b6 (Nat.le_refl _))
        replace HB := hide (bmore HB.out b6)
        clear b6
        replace HB := hide (bmore HW1.out HB.out)
        go_wp2
        go_ret
        exact ⟨rfl, HB.out⟩

end Go.Proofs.Ytckfgpcoingphaa.Clep
