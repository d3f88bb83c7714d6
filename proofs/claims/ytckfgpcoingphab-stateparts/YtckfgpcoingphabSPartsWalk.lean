/- StateParts, walked: for any list and any version. No conditions. -/
import Derived.Test.YtckfgpcoingphabSMath2
import Derived.Test.YtckfgpcoingphabSLaw
namespace Go.Proofs.Ytckfgpcoingphab.Clep
open Go.RowKit
set_option linter.unusedVariables false

theorem filter_split {l : List It} (h : Rise l) (k : Int) : l.filter (fun x => decide (x.S < k + 1)) = l.filter (fun x => decide (x.S < k)) ++ l.filter (fun x => x.S == k) := by
  induction l with
  | nil => rfl
  | cons a r ih =>
    rw [Rise, List.pairwise_cons] at h
    have ih' := ih h.2
    by_cases h1 : a.S < k
    · have e1 : decide (a.S < k + 1) = true := by simp; omega
      have e2 : decide (a.S < k) = true := by simp [h1]
      have e3 : (a.S == k) = false := by simp; omega
      simp only [List.filter_cons, e1, e2, e3, if_true, Bool.false_eq_true, if_false, ih', List.cons_append]
    · have e2 : decide (a.S < k) = false := by simp; omega
      have hn : r.filter (fun x => decide (x.S < k)) = [] := by
        rw [List.filter_eq_nil_iff]
        intro y hy
        have := h.1 y hy
        rw [less_iff] at this
        simp; omega
      by_cases h2 : a.S = k
      · have e1 : decide (a.S < k + 1) = true := by simp; omega
        have e3 : (a.S == k) = true := by simp [h2]
        simp only [List.filter_cons, e1, e2, e3, if_true, Bool.false_eq_true, if_false, ih', hn, List.nil_append]
      · have e1 : decide (a.S < k + 1) = false := by simp; omega
        have e3 : (a.S == k) = false := by simp [h2]
        simp only [List.filter_cons, e1, e2, e3, Bool.false_eq_true, if_false, ih']
theorem filter_none {l : List It} (h : ∀ x ∈ l, x.ok = true) : l.filter (fun x => decide (x.S < 0)) = [] := by
  rw [List.filter_eq_nil_iff]
  intro y hy
  have := h y hy
  rw [ok_iff] at this
  simp; omega
theorem filter_all {l : List It} (h : ∀ x ∈ l, x.ok = true) : l.filter (fun x => decide (x.S < 256)) = l := by
  rw [List.filter_eq_self]
  intro y hy
  have := h y hy
  rw [ok_iff] at this
  simp; omega
theorem st_filter {l : List It} (h : stP l) (p : It → Bool) : stP (l.filter p) :=
  ⟨h.1.filter _, fun x hx => h.2.1 x (List.mem_filter.1 hx).1, fun t ht x hx => h.2.2 t (List.mem_filter.1 ht).1 x (List.mem_filter.1 hx).1⟩
theorem parts_join (l : List It) (v : Int) : ofL ((ofL l).filter (fun x => decide (x.V ≤ v)) ++ (ofL l).filter (fun x => decide (v < x.V))) = ofL l := by
  rw [ofL_congr (m := ofL l)]
  · exact ofL_same l
  · intro z _
    simp only [List.mem_append, List.mem_filter, decide_eq_true_eq]
    constructor
    · rintro (h | h)
      · exact h.1
      · exact h.1
    · intro h
      by_cases h1 : v < z.V
      · exact .inr ⟨h, h1⟩
      · exact .inl ⟨h, by omega⟩
theorem parts_len (l : List It) (v : Int) : (l.filter (fun x => decide (x.V ≤ v))).length + (l.filter (fun x => decide (v < x.V))).length = l.length := by
  induction l with
  | nil => rfl
  | cons a r ih =>
    by_cases h : a.V ≤ v
    · have e1 : decide (a.V ≤ v) = true := by simp [h]
      have e2 : decide (v < a.V) = false := by simp; omega
      simp only [List.filter_cons, e1, e2, if_true, Bool.false_eq_true, if_false, List.length_cons]; omega
    · have e1 : decide (a.V ≤ v) = false := by simp; omega
      have e2 : decide (v < a.V) = true := by simp; omega
      simp only [List.filter_cons, e1, e2, if_true, Bool.false_eq_true, if_false, List.length_cons]; omega
theorem filt2 (p : It → Bool) (l : List It) (i : Nat) (x : It) (h : l[i]? = some x) : (l.take (i + 1)).filter p = (l.take i).filter p ++ (if p x then [x] else []) := filt_snoc p [] l i x h

set_option maxRecDepth 4000 in
set_option maxHeartbeats 8000000 in
theorem parts_walk (a0 : Option Addr) (len0 cap0 : Nat) (l : List It) (v : Int) (w : World) (h0 : Is w a0 len0 cap0 l) (hm0 : len0 ≤ 9223372036854775807) :
    Calls Try.prog 5 #[.slice a0 len0 cap0, .int .u64 v] w fun e w' => e = .returned (.bool true) ∧ Below w.heap.size w w' := by
  have hl := h0.1
  have I_l := hide h0
  clear h0
  by_cases hlong : 50 < len0
  · go_enter Try.func5, Try.ntmps5
    go_wp2_with fail
    refine (awake6_any _).mono ?_
    rintro e w1 ⟨rfl, b1⟩
    go_wp2
    go_ret
    exact ⟨rfl, b1⟩
  have HST := hide (ofL_stP l)
  have HBq := hide (ofL_len l)
  go_enter Try.func5, Try.ntmps5
  go_wp2_with fail
  refine (of_any a0 len0 cap0 l _ I_l.out (by omega)).mono ?_
  intro e w1 hans
  obtain ⟨a_q, n_q, c_q, rfl, i_q, b1⟩ := ans_n hans
  have N_q : n_q ≤ 50 := by have := i_q.1; have := HBq.out; omega
  have hLQ := hide i_q.1
  have HQW := hide i_q.2.2.1
  have HQ := hide (fun W (hW : Below w1.heap.size w1 W) => i_q.below hW (Nat.le_refl _))
  have HB1 := hide b1
  clear hans i_q b1 I_l
  go_wp2_with fail
  go_loopw [6, 7] (fun s6 s7 wr => ∃ k : Nat, k ≤ 256 ∧ s7 = .int .i64 k ∧ Hid (OwnI wr w1.heap.size s6 ((ofL l).filter (fun x => decide (x.S < (k : Int))))) ∧ Hid (Below w1.heap.size w1 wr)) (fun _ s7 _ => 256 - (intOf s7).toNat)
  case atStart => exact ⟨0, by omega, rfl, hide (by rw [show ((0 : Nat) : Int) = 0 from rfl, filter_none HST.out.2.1]; exact ownI_nil _ _), hide (Below.refl _ _)⟩
  case round =>
    obtain ⟨k, hk, rfl, hown, hbel⟩ := hrel
    by_cases hlt : k < 256
    · have hsp := hide (filter_split HST.out.1 (k : Int))
      have hln : Hid (((ofL l).filter (fun x => decide (x.S < (k : Int)))).length + ((ofL l).filter (fun x => x.S == (k : Int))).length ≤ 1099511627776) := hide (by
        have h1 := List.length_filter_le (fun x : It => decide (x.S < (k : Int))) (ofL l)
        have h2 := List.length_filter_le (fun x : It => x.S == (k : Int)) (ofL l)
        have := hLQ.out
        omega)
      go_wp2_with fail
      refine (series_any a_q n_q c_q (ofL l) (k : Int) wr (HQ.out _ hbel.out) (by omega)).mono ?_
      intro e w2 hans
      obtain ⟨a_u, n_u, c_u, rfl, i_u, b2⟩ := ans_n hans
      have hnu := hide i_u.1
      have IU := hide i_u
      have O1 := hide (ownI_keep hown.out b2)
      have B1 := hide (bmore hbel.out b2)
      clear hans i_u b2 hown
      go_wp2_with (at_builtin; refine wpList_append_items rfl _ _ rfl w1.heap.size _ _ rfl O1.out _ n_u c_u _ rfl IU.out (by have := hln.out; have := hnu.out; omega) B1.out.size ?_; intro nv w3 o3 g3 k3; have O3 := hide o3; have B3 := hide (B1.out.grown g3 B1.out.size k3); clear o3 g3 k3)
      go_roundw
      case rel => exact ⟨k + 1, by omega, by go_num, hide (by rw [show ((k + 1 : Nat) : Int) = (k : Int) + 1 from by omega, hsp.out]; exact O3.out), B3⟩
      case measure => simp [intOf]; omega
    · have hk6 : (k : Int) = 256 := by omega
      rw [hk6, filter_all HST.out.2.1] at hown
      clear hk6
      obtain ⟨a_all, c_all, eal, hcal, ial, -⟩ := ownI_is hown.out HQW.out
      rw [hLQ.out] at eal ial
      subst eal
      have HALL := hide (fun W (hW : Below wr.heap.size wr W) => ial.below hW (Nat.le_refl _))
      have HB2 := hide (bmore HB1.out hbel.out)
      have HQ2 := hide (fun W (hW : Below wr.heap.size wr W) => HQ.out W (bmore hbel.out hW))
      clear ial hown HQ
      obtain ⟨wz, hwz⟩ : ∃ wz, wr = wz := ⟨_, rfl⟩
      rw [hwz] at HALL HB2 HQ2 hbel ⊢
      clear hwz
      go_wp2_with fail
      go_loopw [8, 9] (fun s8 s9 wr => ∃ i : Nat, i ≤ n_q ∧ s9 = .int .i64 i ∧ Hid (OwnI wr wz.heap.size s8 (((ofL l).take i).filter (fun x => decide (v < x.V)))) ∧ Hid (Below wz.heap.size wz wr)) (fun _ s9 _ => n_q - (intOf s9).toNat)
      case atStart => exact ⟨0, by omega, rfl, hide (by simpa using ownI_nil _ _), hide (Below.refl _ _)⟩
      case round =>
        obtain ⟨i, hi, rfl, hown, hbz⟩ := hrel
        by_cases hli : i < n_q
        · obtain ⟨b0, off, ea, hc⟩ := (HQ2.out _ hbz.out).2.2.2 (by omega)
          subst ea
          obtain ⟨x, hx⟩ : ∃ x, (ofL l)[i]? = some x := ⟨_, List.getElem?_eq_getElem (by rw [hLQ.out]; exact hli)⟩
          have hv := hc i x hx
          have HX := hide (filt2 (fun x => decide (v < x.V)) (ofL l) i x hx)
          have hxw := hide (HQW.out x (List.mem_of_getElem? hx))
          have hln : Hid ((((ofL l).take i).filter (fun x => decide (v < x.V))).length + 1 ≤ 1099511627776) := hide (by have h1 := List.length_filter_le (fun x : It => decide (v < x.V)) ((ofL l).take i); rw [List.length_take] at h1; omega)
          obtain ⟨S, K, T, V, X⟩ := x
          unfold Vt Vi at hv
          simp only at hv HX
          obtain ⟨v0, v1, v2, v3, v4⟩ := hv
          clear hc hx
          by_cases e : v < V
          · have q : decide (v < V) = true := by simp [e]
            have O1 := hide (ownI_keep hown.out ((Below.refl _ _).alloc (Nat.le_refl _) (Obj.cells #[Value.int IntKind.i64 S, Value.int IntKind.i64 K, Value.int IntKind.u64 T, Value.int IntKind.u64 V, Value.int IntKind.i64 X] 26)))
            have B1 := hide (hbz.out.alloc hbz.out.size (Obj.cells #[Value.int IntKind.i64 S, Value.int IntKind.i64 K, Value.int IntKind.u64 T, Value.int IntKind.u64 V, Value.int IntKind.i64 X] 26))
            have IA := hide (is_one wr S K T V X hxw.out)
            have HE := hide e
            clear e
            go_wp2_with (at_builtin; refine wpList_append_items rfl _ _ rfl wz.heap.size _ _ rfl O1.out _ 1 1 [⟨S, K, T, V, X⟩] rfl IA.out hln.out B1.out.size ?_; intro nv w2 o2 g2 k2; have O2 := hide o2; have B2 := hide (B1.out.grown g2 B1.out.size k2); clear o2 g2 k2)
            go_roundw
            case rel => exact ⟨i + 1, by omega, by go_num, hide (by rw [HX.out, if_pos (by simp [HE.out])]; exact O2.out), B2⟩
            case measure => simp [intOf]; omega
          · have q : decide (v < V) = false := by simp; omega
            have HE := hide e
            clear e
            go_wp2
            go_roundw
            case rel => exact ⟨i + 1, by omega, by go_num, hide (by rw [HX.out, if_neg (by simp [HE.out])]; simpa using hown.out), hbz⟩
            case measure => simp [intOf]; omega
        · have hin : i = n_q := by omega
          rw [hin] at hown
          rw [show (ofL l).take n_q = ofL l from by rw [← hLQ.out]; exact List.take_length] at hown
          obtain ⟨a_late, c_late, eal, hcal2, ial, -⟩ := ownI_is hown.out (fun x hx => HQW.out x (List.mem_filter.1 hx).1)
          obtain ⟨n_late, hnl⟩ : ∃ n, ((ofL l).filter (fun x => decide (v < x.V))).length = n := ⟨_, rfl⟩
          rw [hnl] at eal ial
          subst eal
          have N_late : n_late ≤ 50 := by have := List.length_filter_le (fun x : It => decide (v < x.V)) (ofL l); have := hLQ.out; omega
          have I_late := hide ial
          have I_all := hide (HALL.out _ hbz.out)
          have I_q := hide (HQ2.out _ hbz.out)
          have HB0 := hide HB2.out
          have HB := hide hbz.out
          clear ial hown hnl HALL HQ2
          subst hin
          go_wp2_with fail
          refine (upto_any a_q i c_q (ofL l) v _ I_q.out (by omega)).mono ?_
          intro e w1 hans
          obtain ⟨a_u, n_u, c_u, rfl, i_u, b1⟩ := ans_n hans
          have N_u : n_u ≤ 50 := by have hq := i_u.1; have := List.length_filter_le (fun x : It => decide (x.V ≤ v)) (ofL l); have := hLQ.out; omega
          have I_u := hide i_u
          clear hans i_u
          replace I_all := hide (I_all.out.below b1 (Nat.le_refl _))
          replace I_q := hide (I_q.out.below b1 (Nat.le_refl _))
          replace I_late := hide (I_late.out.below b1 (Nat.le_refl _))
          replace HB := hide (bmore HB.out b1)
          clear b1
          go_wp2_with fail
          refine (refequal_any _ _ _ _ _ _ _ _ _ I_all.out I_q.out (by omega) (by omega)).mono ?_
          rintro e w2 ⟨o, rfl, ho, b2⟩
          obtain rfl : o = true := ho.2 (rfl)
          clear ho
          replace I_all := hide (I_all.out.below b2 (Nat.le_refl _))
          replace I_q := hide (I_q.out.below b2 (Nat.le_refl _))
          replace I_late := hide (I_late.out.below b2 (Nat.le_refl _))
          replace I_u := hide (I_u.out.below b2 (Nat.le_refl _))
          replace HB := hide (bmore HB.out b2)
          clear b2
          go_wp2_with fail
          refine (join_any _ _ _ _ _ _ _ _ _ I_u.out I_late.out (by omega) (by omega)).mono ?_
          intro e w3 hans
          obtain ⟨a_j, n_j, c_j, rfl, i_j, b3⟩ := ans_n hans
          have N_j : n_j ≤ 100 := by have hq := i_j.1; have h9 := ofL_len ((ofL l).filter (fun x => decide (x.V ≤ v)) ++ (ofL l).filter (fun x => decide (v < x.V))); rw [List.length_append] at h9; have := I_u.out.1; have := I_late.out.1; omega
          have I_j := hide i_j
          clear hans i_j
          replace I_all := hide (I_all.out.below b3 (Nat.le_refl _))
          replace I_q := hide (I_q.out.below b3 (Nat.le_refl _))
          replace I_late := hide (I_late.out.below b3 (Nat.le_refl _))
          replace I_u := hide (I_u.out.below b3 (Nat.le_refl _))
          replace HB := hide (bmore HB.out b3)
          clear b3
          go_wp2_with fail
          refine (refequal_any _ _ _ _ _ _ _ _ _ I_j.out I_q.out (by omega) (by omega)).mono ?_
          rintro e w4 ⟨o, rfl, ho, b4⟩
          obtain rfl : o = true := ho.2 (parts_join l v)
          clear ho
          replace I_all := hide (I_all.out.below b4 (Nat.le_refl _))
          replace I_q := hide (I_q.out.below b4 (Nat.le_refl _))
          replace I_late := hide (I_late.out.below b4 (Nat.le_refl _))
          replace I_u := hide (I_u.out.below b4 (Nat.le_refl _))
          replace I_j := hide (I_j.out.below b4 (Nat.le_refl _))
          replace HB := hide (bmore HB.out b4)
          clear b4
          have hsum : (n_u : Int) + (n_late : Int) = (i : Int) := by
            have h1 := I_u.out.1
            have h2 := I_late.out.1
            have h3 := hLQ.out
            have h4 := parts_len (ofL l) v
            omega
          have hsumb : ((n_u : Int) + (n_late : Int) == (i : Int)) = true := by simp [hsum]
          clear I_j
          go_wp2_with fail
          refine (purge_any a_q i c_q (ofL l) 281474976710656 _ I_q.out (by omega)).mono ?_
          intro e w5 hans
          obtain ⟨a_p, n_p, c_p, rfl, i_p, b5⟩ := ans_n hans
          have N_p : n_p ≤ 50 := by have hq := i_p.1; have := List.length_filter_le (purgeP 281474976710656) (ofL l); have := hLQ.out; omega
          have I_p := hide i_p
          clear hans i_p
          replace I_all := hide (I_all.out.below b5 (Nat.le_refl _))
          replace I_q := hide (I_q.out.below b5 (Nat.le_refl _))
          replace I_late := hide (I_late.out.below b5 (Nat.le_refl _))
          replace I_u := hide (I_u.out.below b5 (Nat.le_refl _))
          replace HB := hide (bmore HB.out b5)
          clear b5
          have hple : (n_p : Int) ≤ (i : Int) := by
            have h1 := I_p.out.1
            have h3 := hLQ.out
            have := List.length_filter_le (purgeP 281474976710656) (ofL l)
            omega
          go_wp2_with fail
          refine (purge_any a_q i c_q (ofL l) v _ I_q.out (by omega)).mono ?_
          intro e w6 hans
          obtain ⟨a_r, n_r, c_r, rfl, i_r, b6⟩ := ans_n hans
          have N_r : n_r ≤ 50 := by have hq := i_r.1; have := List.length_filter_le (purgeP v) (ofL l); have := hLQ.out; omega
          have I_r := hide i_r
          clear hans i_r
          replace I_all := hide (I_all.out.below b6 (Nat.le_refl _))
          replace I_q := hide (I_q.out.below b6 (Nat.le_refl _))
          replace I_late := hide (I_late.out.below b6 (Nat.le_refl _))
          replace I_u := hide (I_u.out.below b6 (Nat.le_refl _))
          replace I_p := hide (I_p.out.below b6 (Nat.le_refl _))
          replace HB := hide (bmore HB.out b6)
          clear b6
          go_wp2_with fail
          refine (sok_any _ _ _ _ _ I_r.out (by omega)).mono ?_
          rw [show stB ((ofL l).filter (purgeP v)) = true from stB_iff.2 (st_filter (ofL_stP l) _)]
          rintro e w7 ⟨rfl, b7⟩
          replace I_all := hide (I_all.out.below b7 (Nat.le_refl _))
          replace I_q := hide (I_q.out.below b7 (Nat.le_refl _))
          replace I_late := hide (I_late.out.below b7 (Nat.le_refl _))
          replace I_u := hide (I_u.out.below b7 (Nat.le_refl _))
          replace I_p := hide (I_p.out.below b7 (Nat.le_refl _))
          replace I_r := hide (I_r.out.below b7 (Nat.le_refl _))
          replace HB := hide (bmore HB.out b7)
          clear b7
          go_wp2_with fail
          refine (awake6_any _).mono ?_
          rintro e w8 ⟨rfl, b8⟩
          replace I_all := hide (I_all.out.below b8 (Nat.le_refl _))
          replace I_q := hide (I_q.out.below b8 (Nat.le_refl _))
          replace I_late := hide (I_late.out.below b8 (Nat.le_refl _))
          replace I_u := hide (I_u.out.below b8 (Nat.le_refl _))
          replace I_p := hide (I_p.out.below b8 (Nat.le_refl _))
          replace I_r := hide (I_r.out.below b8 (Nat.le_refl _))
          replace HB := hide (bmore HB.out b8)
          clear b8
          replace HB := hide (bmore HB0.out HB.out)
          go_wp2
          go_ret
          exact ⟨rfl, HB.out⟩

end Go.Proofs.Ytckfgpcoingphab.Clep
