/- StateTells, walked: for any two lists and any item. No conditions. -/
import Derived.Test.YtckfgpcoingphaaSRefOf
import Derived.Test.YtckfgpcoingphaaSLawC
import Derived.Deep.RegionHeldLaw
namespace Go.Proofs.Ytckfgpcoingphaa.Clep
open Go.RowKit
set_option linter.unusedVariables false

def Eqo (o : Bool) (l m : List It) : Prop := o = true ↔ l = m
def Lk (w : World) (a : Option Addr) (n c : Nat) (l : List It) : Prop := (∀ W, Below w.heap.size w W → Is W a n c l) ∧ n ≤ 549755813888 ∧ c ≤ 9223372036854775807 ∧ l.length + 1 ≤ 9223372036854775807
theorem bool_uniq {o o' : Bool} {p : Prop} (h : o = true ↔ p) (h' : o' = true ↔ p) : o = o' := by
  rw [Bool.eq_iff_iff, h, h']
theorem sadd_len (l : List It) (x : It) (h : l.length + 1 ≤ 9223372036854775807) : (saddL l x).length ≤ 9223372036854775807 := by
  unfold saddL
  split
  · have := ofL_len (l ++ [x]); simp at this; omega
  · omega
theorem ans_m {l : List It} {w : World} {e : Ending} {w' : World} (h : Ans l w e w') (hl : l.length ≤ 9223372036854775807) : ∃ a n c, e = .returned (.slice a n c) ∧ n ≤ 9223372036854775807 ∧ (Is w' a n c l ∧ Below w.heap.size w w') := by
  obtain ⟨a, c, h1, h2, _, h4⟩ := h
  exact ⟨a, _, c, h1, hl, h2, h4⟩

set_option maxRecDepth 4000 in
set_option maxHeartbeats 8000000 in
theorem tells_walk (a0 a1 : Option Addr) (len0 cap0 len1 cap1 : Nat) (la lb : List It) (x : It) (w : World) (h0 : Is w a0 len0 cap0 la) (h1 : Is w a1 len1 cap1 lb) (hm0 : len0 ≤ 9223372036854775807) (hm1 : len1 ≤ 9223372036854775807) (hc0 : cap0 ≤ 9223372036854775807) (hw : x.wf) :
    Calls Try.prog 6 #[.slice a0 len0 cap0, .slice a1 len1 cap1, .agg #[.int .i64 x.S, .int .i64 x.K, .int .u64 x.T, .int .u64 x.V, .int .i64 x.X]] w fun e w' => e = .returned (.bool true) ∧ Below w.heap.size w w' := by
  obtain ⟨S, K, T, V, X⟩ := x
  have HB := hide ((Below.refl _ w).alloc (Nat.le_refl _) (Obj.cells #[Value.int IntKind.i64 S, Value.int IntKind.i64 K, Value.int IntKind.u64 T, Value.int IntKind.u64 V, Value.int IntKind.i64 X] 29))
  have V_x := hide (vi_new w S K T V X)
  have I_la := hide (h0.below HB.out (Nat.le_refl _))
  have I_lb := hide (h1.below HB.out (Nat.le_refl _))
  clear h0 h1
  by_cases hlong_len0 : 60 < len0
  · go_enter Try.func6, Try.ntmps6
    go_wp2_with fail
    refine (awake6_any _).mono ?_
    rintro e w1 ⟨rfl, b1⟩
    replace HB := hide (bmore HB.out b1)
    go_wp2
    go_ret
    exact ⟨rfl, HB.out⟩
  by_cases hlong_len1 : 60 < len1
  · go_enter Try.func6, Try.ntmps6
    go_wp2_with fail
    refine (awake6_any _).mono ?_
    rintro e w1 ⟨rfl, b1⟩
    replace HB := hide (bmore HB.out b1)
    go_wp2
    go_ret
    exact ⟨rfl, HB.out⟩
  obtain ⟨os, hos⟩ : ∃ o, stB la = o := ⟨_, rfl⟩
  have HOS := hide hos
  clear hos
  have hLA : Hid (la.length = len0) := hide I_la.out.1
  have hLB : Hid (lb.length = len1) := hide I_lb.out.1
  go_enter Try.func6, Try.ntmps6
  go_wp2_with fail
  refine (of_any a0 len0 cap0 la _ I_la.out (by omega)).mono ?_
  intro e w1 hans
  obtain ⟨a_p, n_p, c_p, rfl, ⟨i_p, C_p⟩, b1⟩ := ans_c hans
  have N_p : n_p ≤ 60 := by have hq := i_p.1; have := ofL_len la; have := hLA.out; omega
  have I_p := hide i_p
  clear hans i_p
  replace I_la := hide (I_la.out.below b1 (Nat.le_refl _))
  replace I_lb := hide (I_lb.out.below b1 (Nat.le_refl _))
  replace V_x := hide (V_x.out.keep b1)
  replace HB := hide (bmore HB.out b1)
  clear b1
  go_wp2_with fail
  refine (refof_any a0 len0 cap0 la _ I_la.out (by omega)).mono ?_
  intro e w2 hans
  obtain ⟨a_q, n_q, c_q, rfl, ⟨i_q, C_q⟩, b2⟩ := ans_c hans
  have N_q : n_q ≤ 60 := by have hq := i_q.1; have := ofL_len la; have := hLA.out; omega
  have I_q := hide i_q
  clear hans i_q
  replace I_la := hide (I_la.out.below b2 (Nat.le_refl _))
  replace I_lb := hide (I_lb.out.below b2 (Nat.le_refl _))
  replace I_p := hide (I_p.out.below b2 (Nat.le_refl _))
  replace V_x := hide (V_x.out.keep b2)
  replace HB := hide (bmore HB.out b2)
  clear b2
  go_wp2_with fail
  refine (sok_any a0 len0 cap0 la _ I_la.out (by omega)).mono ?_
  rw [HOS.out]
  rintro e w3 ⟨rfl, b3⟩
  replace I_la := hide (I_la.out.below b3 (Nat.le_refl _))
  replace I_lb := hide (I_lb.out.below b3 (Nat.le_refl _))
  replace I_p := hide (I_p.out.below b3 (Nat.le_refl _))
  replace I_q := hide (I_q.out.below b3 (Nat.le_refl _))
  replace V_x := hide (V_x.out.keep b3)
  replace HB := hide (bmore HB.out b3)
  clear b3
  go_wp2_with fail
  refine (state_any a0 len0 cap0 la _ I_la.out (by omega)).mono ?_
  rw [HOS.out]
  rintro e w4 ⟨rfl, b4⟩
  replace I_la := hide (I_la.out.below b4 (Nat.le_refl _))
  replace I_lb := hide (I_lb.out.below b4 (Nat.le_refl _))
  replace I_p := hide (I_p.out.below b4 (Nat.le_refl _))
  replace I_q := hide (I_q.out.below b4 (Nat.le_refl _))
  replace V_x := hide (V_x.out.keep b4)
  replace HB := hide (bmore HB.out b4)
  clear b4
  go_wp2_with fail
  refine (refequal_any _ _ _ _ _ _ _ _ _ I_p.out I_q.out (by omega) (by omega)).mono ?_
  rintro e w5 ⟨o, rfl, ho, b5⟩
  obtain rfl : o = true := ho.2 (rfl)
  clear ho
  replace I_la := hide (I_la.out.below b5 (Nat.le_refl _))
  replace I_lb := hide (I_lb.out.below b5 (Nat.le_refl _))
  replace I_p := hide (I_p.out.below b5 (Nat.le_refl _))
  replace I_q := hide (I_q.out.below b5 (Nat.le_refl _))
  replace V_x := hide (V_x.out.keep b5)
  replace HB := hide (bmore HB.out b5)
  clear b5
  go_wp2_with fail
  refine (sok_any _ _ _ _ _ I_p.out (by omega)).mono ?_
  rw [show stB (ofL la) = true from stB_iff.2 (ofL_stP _)]
  rintro e w6 ⟨rfl, b6⟩
  replace I_la := hide (I_la.out.below b6 (Nat.le_refl _))
  replace I_lb := hide (I_lb.out.below b6 (Nat.le_refl _))
  replace I_p := hide (I_p.out.below b6 (Nat.le_refl _))
  replace I_q := hide (I_q.out.below b6 (Nat.le_refl _))
  replace V_x := hide (V_x.out.keep b6)
  replace HB := hide (bmore HB.out b6)
  clear b6
  go_wp2_with fail
  refine (join_any _ _ _ _ _ _ _ _ _ I_la.out I_lb.out (by omega) (by omega)).mono ?_
  intro e w7 hans
  obtain ⟨a_r, n_r, c_r, rfl, i_r, b7⟩ := ans_n hans
  have N_r : n_r ≤ 120 := by have hq := i_r.1; have h3 := ofL_len (la ++ lb); rw [List.length_append] at h3; have := hLA.out; have := hLB.out; omega
  have I_r := hide i_r
  clear hans i_r
  replace I_la := hide (I_la.out.below b7 (Nat.le_refl _))
  replace I_lb := hide (I_lb.out.below b7 (Nat.le_refl _))
  replace I_p := hide (I_p.out.below b7 (Nat.le_refl _))
  replace I_q := hide (I_q.out.below b7 (Nat.le_refl _))
  replace V_x := hide (V_x.out.keep b7)
  replace HB := hide (bmore HB.out b7)
  clear b7
  go_wp2_with fail
  refine (refjoin_any _ _ _ _ _ _ _ _ _ I_la.out I_lb.out (by omega) (by omega) hc0).mono ?_
  intro e w8 hans
  obtain ⟨a_s, n_s, c_s, rfl, ⟨i_s, C_s⟩, b8⟩ := ans_c hans
  have N_s : n_s ≤ 120 := by have hq := i_s.1; have h3 := ofL_len (la ++ lb); rw [List.length_append] at h3; have := hLA.out; have := hLB.out; omega
  have I_s := hide i_s
  clear hans i_s
  replace I_la := hide (I_la.out.below b8 (Nat.le_refl _))
  replace I_lb := hide (I_lb.out.below b8 (Nat.le_refl _))
  replace I_p := hide (I_p.out.below b8 (Nat.le_refl _))
  replace I_q := hide (I_q.out.below b8 (Nat.le_refl _))
  replace I_r := hide (I_r.out.below b8 (Nat.le_refl _))
  replace V_x := hide (V_x.out.keep b8)
  replace HB := hide (bmore HB.out b8)
  clear b8
  go_wp2_with fail
  refine (refequal_any _ _ _ _ _ _ _ _ _ I_r.out I_s.out (by omega) (by omega)).mono ?_
  rintro e w9 ⟨o, rfl, ho, b9⟩
  obtain rfl : o = true := ho.2 (rfl)
  clear ho
  replace I_la := hide (I_la.out.below b9 (Nat.le_refl _))
  replace I_lb := hide (I_lb.out.below b9 (Nat.le_refl _))
  replace I_p := hide (I_p.out.below b9 (Nat.le_refl _))
  replace I_q := hide (I_q.out.below b9 (Nat.le_refl _))
  replace I_r := hide (I_r.out.below b9 (Nat.le_refl _))
  replace I_s := hide (I_s.out.below b9 (Nat.le_refl _))
  replace V_x := hide (V_x.out.keep b9)
  replace HB := hide (bmore HB.out b9)
  clear b9
  clear I_r
  clear I_s
  go_wp2_with fail
  refine (join_any _ _ _ _ _ _ _ _ _ I_p.out I_lb.out (by omega) (by omega)).mono ?_
  intro e w10 hans
  obtain ⟨a_r, n_r, c_r, rfl, i_r, b10⟩ := ans_n hans
  have N_r : n_r ≤ 120 := by have hq := i_r.1; have h3 := ofL_len (ofL la ++ lb); rw [List.length_append] at h3; have := ofL_len la; have := hLA.out; have := hLB.out; omega
  have I_r := hide i_r
  clear hans i_r
  replace I_la := hide (I_la.out.below b10 (Nat.le_refl _))
  replace I_lb := hide (I_lb.out.below b10 (Nat.le_refl _))
  replace I_p := hide (I_p.out.below b10 (Nat.le_refl _))
  replace I_q := hide (I_q.out.below b10 (Nat.le_refl _))
  replace V_x := hide (V_x.out.keep b10)
  replace HB := hide (bmore HB.out b10)
  clear b10
  go_wp2_with fail
  refine (refjoin_any _ _ _ _ _ _ _ _ _ I_q.out I_lb.out (by omega) (by omega) C_q).mono ?_
  intro e w11 hans
  obtain ⟨a_s, n_s, c_s, rfl, ⟨i_s, C_s⟩, b11⟩ := ans_c hans
  have N_s : n_s ≤ 120 := by have hq := i_s.1; have h3 := ofL_len (ofL la ++ lb); rw [List.length_append] at h3; have := ofL_len la; have := hLA.out; have := hLB.out; omega
  have I_s := hide i_s
  clear hans i_s
  replace I_la := hide (I_la.out.below b11 (Nat.le_refl _))
  replace I_lb := hide (I_lb.out.below b11 (Nat.le_refl _))
  replace I_p := hide (I_p.out.below b11 (Nat.le_refl _))
  replace I_q := hide (I_q.out.below b11 (Nat.le_refl _))
  replace I_r := hide (I_r.out.below b11 (Nat.le_refl _))
  replace V_x := hide (V_x.out.keep b11)
  replace HB := hide (bmore HB.out b11)
  clear b11
  go_wp2_with fail
  refine (refequal_any _ _ _ _ _ _ _ _ _ I_r.out I_s.out (by omega) (by omega)).mono ?_
  rintro e w12 ⟨o, rfl, ho, b12⟩
  obtain rfl : o = true := ho.2 (rfl)
  clear ho
  replace I_la := hide (I_la.out.below b12 (Nat.le_refl _))
  replace I_lb := hide (I_lb.out.below b12 (Nat.le_refl _))
  replace I_p := hide (I_p.out.below b12 (Nat.le_refl _))
  replace I_q := hide (I_q.out.below b12 (Nat.le_refl _))
  replace I_r := hide (I_r.out.below b12 (Nat.le_refl _))
  replace I_s := hide (I_s.out.below b12 (Nat.le_refl _))
  replace V_x := hide (V_x.out.keep b12)
  replace HB := hide (bmore HB.out b12)
  clear b12
  clear I_r
  clear I_s
  go_wp2_with fail
  replace I_la := hide (fun W (hW : Below w12.heap.size w12 W) => I_la.out.below hW (Nat.le_refl _))
  replace I_lb := hide (fun W (hW : Below w12.heap.size w12 W) => I_lb.out.below hW (Nat.le_refl _))
  replace I_p := hide (fun W (hW : Below w12.heap.size w12 W) => I_p.out.below hW (Nat.le_refl _))
  replace I_q := hide (fun W (hW : Below w12.heap.size w12 W) => I_q.out.below hW (Nat.le_refl _))
  have HK : Hid (∀ W, Below w12.heap.size w12 W → (Below w12.heap.size w12 W ∧ W.cell? ⟨w.heap.size, 0, none⟩ = some (.int .i64 S) ∧ W.cell? ⟨w.heap.size, 1, none⟩ = some (.int .i64 K) ∧ W.cell? ⟨w.heap.size, 2, none⟩ = some (.int .u64 T) ∧ W.cell? ⟨w.heap.size, 3, none⟩ = some (.int .u64 V) ∧ W.cell? ⟨w.heap.size, 4, none⟩ = some (.int .i64 X))) := hide fun W hW => ⟨hW, V_x.out.keep hW⟩
  have hb0 : Below w12.heap.size w12 w12 := Below.refl _ _
  obtain ⟨oe, hoe⟩ : ∃ oe : Bool, (oe = true ↔ la = lb) := by
    by_cases hh : la = lb
    · exact ⟨true, by simp [hh]⟩
    · exact ⟨false, by simp [hh]⟩
  have HOE := hide hoe
  clear hoe
  have hwx := hide hw
  clear hw
  have HN1 : Hid (len0 ≤ 549755813888 ∧ len1 ≤ 549755813888 ∧ n_p ≤ 549755813888 ∧ n_q ≤ 549755813888) := hide (by omega)
  have HN2 : Hid (len0 ≤ 9223372036854775807 ∧ len1 ≤ 9223372036854775807) := hide (by omega)
  have HC : Hid (cap0 ≤ 9223372036854775807 ∧ c_q ≤ 9223372036854775807) := hide ⟨hc0, C_q⟩
  have L1 : Lk w12 a0 len0 cap0 la := ⟨I_la.out, HN1.out.1, HC.out.1, by have := hLA.out; have := HN1.out; omega⟩
  have L2 : Lk w12 a_p n_p c_p (ofL la) := ⟨I_p.out, HN1.out.2.2.1, C_p, by have := ofL_len la; have := hLA.out; have := HN1.out; omega⟩
  have L3 : Lk w12 a_q n_q c_q (ofL la) := ⟨I_q.out, HN1.out.2.2.2, HC.out.2, by have := ofL_len la; have := hLA.out; have := HN1.out; omega⟩
  have cA : Hid (∀ W a n c l, Below w12.heap.size w12 W → Lk w12 a n c l → Calls Try.prog 19 #[.slice a n c, .agg #[.int .i64 S, .int .i64 K, .int .u64 T, .int .u64 V, .int .i64 X]] W (fun e w' => ∃ a' n' c', e = .returned (.slice a' n' c') ∧ n' ≤ 9223372036854775807 ∧ (Is w' a' n' c' (saddL l ⟨S, K, T, V, X⟩) ∧ Below W.heap.size W w'))) := hide fun W a n c l hW hL => (add_any a n c l S K T V X W (hL.1 W hW) hL.2.1 hwx.out).mono fun e w' h => ans_m h (sadd_len _ _ hL.2.2.2)
  have cR : Hid (∀ W a n c l, Below w12.heap.size w12 W → Lk w12 a n c l → Calls Try.prog 24 #[.slice a n c, .agg #[.int .i64 S, .int .i64 K, .int .u64 T, .int .u64 V, .int .i64 X]] W (fun e w' => ∃ a' n' c', e = .returned (.slice a' n' c') ∧ n' ≤ 9223372036854775807 ∧ (Is w' a' n' c' (saddL l ⟨S, K, T, V, X⟩) ∧ Below W.heap.size W w'))) := hide fun W a n c l hW hL => (refAdd_any a n c l S K T V X W (hL.1 W hW) hL.2.1 hL.2.2.1 hwx.out).mono fun e w' h => ans_m h (sadd_len _ _ hL.2.2.2)
  have cE : Hid (∀ (W : World) a n c l b n' c' m o, Is W a n c l → Is W b n' c' m → n ≤ 9223372036854775807 → n' ≤ 9223372036854775807 → Eqo o l m → Calls Try.prog 16 #[.slice a n c, .slice b n' c'] W (fun e w' => e = .returned (.bool o) ∧ Below W.heap.size W w')) := hide fun W a n c l b n' c' m o h1 h2 h3 h4 h5 => (refequal_any a b n c n' c' l m W h1 h2 h3 h4).mono fun e w' h => by obtain ⟨o', g1, g2, g3⟩ := h; rw [bool_uniq g2 h5] at g1; exact ⟨g1, g3⟩
  have E1 : Eqo true (saddL la ⟨S, K, T, V, X⟩) (saddL la ⟨S, K, T, V, X⟩) := by simp [Eqo]
  have E2 : Eqo true (saddL (ofL la) ⟨S, K, T, V, X⟩) (saddL (ofL la) ⟨S, K, T, V, X⟩) := by simp [Eqo]
  have E3 : Eqo oe la lb := HOE.out
  have cS : Hid (∀ W, Below w12.heap.size w12 W → Calls Try.prog 25 #[.slice a0 len0 cap0, .slice a1 len1 cap1] W (fun e w' => e = .returned (.bool oe) ∧ Below W.heap.size W w')) := hide fun W hW => (ssame_any a0 a1 len0 cap0 len1 cap1 la lb W (I_la.out W hW) (I_lb.out W hW) HN2.out.1 HN2.out.2).mono fun e w' h => by obtain ⟨o, h1, h2, h3⟩ := h; rw [bool_uniq h2 HOE.out] at h1; exact ⟨h1, h3⟩
  clear V_x HN1 HN2 HC HOE
  go_region_held_law (fun W => Below w12.heap.size w12 W ∧ W.cell? ⟨w.heap.size, 0, none⟩ = some (.int .i64 S) ∧ W.cell? ⟨w.heap.size, 1, none⟩ = some (.int .i64 K) ∧ W.cell? ⟨w.heap.size, 2, none⟩ = some (.int .u64 T) ∧ W.cell? ⟨w.heap.size, 3, none⟩ = some (.int .u64 V) ∧ W.cell? ⟨w.heap.size, 4, none⟩ = some (.int .i64 X))
    (first
    | exact HK.out _ (by assumption)
    | exact HK.out _ (Below.drew (by assumption)))
    (first
    | (go_at_call 19; refine (cA.out _ _ _ _ _ (And.left (by assumption)) (by assumption)).mono ?_; rintro e wa ⟨aa, na, ca, rfl, hna, hIa, ba⟩; have hba : Below w12.heap.size w12 wa := bmore (And.left (by assumption)) ba)
    | (go_at_call 24; refine (cR.out _ _ _ _ _ (And.left (by assumption)) (by assumption)).mono ?_; rintro e wb ⟨ab, nb, cb, rfl, hnb, hIb, bb⟩; have hbb : Below w12.heap.size w12 wb := bmore (And.left (by assumption)) bb; have hIa2 := hIa.below bb (Nat.le_refl _))
    | (go_at_call 16; refine (cE.out _ _ _ _ _ _ _ _ _ _ (by assumption) (by assumption) (by assumption) (by assumption) (by assumption)).mono ?_; rintro e wc ⟨rfl, bc⟩; have hbc : Below w12.heap.size w12 wc := bmore (And.left (by assumption)) bc)
    | (go_at_call 25; refine (cS.out _ (And.left (by assumption))).mono ?_; rintro e wg ⟨rfl, bg⟩; have hbg : Below w12.heap.size w12 wg := bmore (And.left (by assumption)) bg; have J0 := I_la.out _ hbg; have J1 := I_lb.out _ hbg)
    | (go_at_call 10; refine (awake6_any _).mono ?_; rintro e wi ⟨rfl, bi⟩; have hbi : Below w12.heap.size w12 wi := bmore (And.left (by assumption)) bi))
  all_goals
    replace HB := hide (bmore HB.out hbi)
    go_wp2
    go_ret
    exact ⟨rfl, HB.out⟩

end Go.Proofs.Ytckfgpcoingphaa.Clep
