/- The statement NumPuts, called at any bytes and numbers, answers true, in new memory alone. No conditions. -/
import Derived.Test.YtonfnpcgjcicdaaRefPut
import Derived.Test.YtonfnpcgjcicdaaKept
import Derived.Deep.Cut
import Derived.Deep.DeepCutAuto
namespace Go.Proofs.Ytonfnpcgjcicdaa.Clep
open Go.RowKit
set_option linter.unusedVariables false

set_option maxHeartbeats 1000000 in
theorem puts_long (a0 : Option Addr) (len0 cap0 : Nat) (n i : Int) (w : World) (hl : 1000 < len0) (hm : len0 ≤ 9223372036854775807) :
    Calls Try.prog 5 #[.slice a0 len0 cap0, .int .u64 n, .int .i64 i] w fun e w' => e = .returned (.bool true) ∧ Below w.heap.size w w' := by
  go_enter Try.func5, Try.ntmps5
  go_wp2_with (go_at_call 11; refine (awake_any _).mono ?_; rintro e w' ⟨rfl, hbel⟩)
  go_ret
  exact ⟨rfl, hbel⟩

theorem Bs.drop {w : World} {g len cap : Nat} {zs : List Int} (h : Bs w (some ⟨g, 0, none⟩) len cap zs) (k : Nat) (hk : k ≤ len) : Bs w (some ⟨g, k, none⟩) (len - k) (cap - k) (zs.drop k) := by
  refine ⟨by rw [List.length_drop, h.1], ⟨by have := h.2.1.1; omega, fun e => by cases e⟩, range_of fun z hz => ?_, fun h0 => ?_⟩
  · obtain ⟨j, hj, rfl⟩ := List.getElem_of_mem (List.mem_of_mem_drop hz)
    have := h.2.2.1 j
    simpa [List.getD, List.getElem?_eq_getElem hj] using this
  · obtain ⟨b, off, ho, hc⟩ := h.2.2.2 (by omega)
    cases ho
    refine ⟨g, k, rfl, fun i hi => ?_⟩
    have := hc (k + i) (by omega)
    rw [Nat.zero_add] at this
    rw [this]
    simp [List.getD]

theorem ue_e8 (n : Int) (h0 : 0 ≤ n) (h1 : n ≤ 18446744073709551615) : ue (e8 n 8) = (n, 0) := by
  unfold ue
  rw [if_neg (by rw [e8_len]; omega)]
  refine Prod.ext ?_ rfl
  show horner (e8 n 8) 8 = n
  unfold horner
  rw [List.take_of_length_le (by rw [e8_len]; exact Nat.le_refl _), e8_all]
  simp only [List.foldl_cons, List.foldl_nil]
  omega
theorem i64_bounds {n : Int} (h : (Lit.int .i64 n).wf = true) : -9223372036854775808 ≤ n ∧ n ≤ 9223372036854775807 := by
  simp only [Lit.wf, IntKind.min, IntKind.max, IntKind.signed, IntKind.bits, Bool.and_eq_true, decide_eq_true_eq, if_true] at h
  omega
theorem cat_range {a b : List Int} (ha : ∀ z ∈ a, 0 ≤ z ∧ z < 256) (hb : ∀ z ∈ b, 0 ≤ z ∧ z < 256) : ∀ z ∈ a ++ b, 0 ≤ z ∧ z < 256 := by
  intro z hz
  rcases List.mem_append.1 hz with h | h
  · exact ha z h
  · exact hb z h
theorem bs_range {w : World} {ao : Option Addr} {len cap : Nat} {zs : List Int} (h : Bs w ao len cap zs) : ∀ z ∈ zs, 0 ≤ z ∧ z < 256 := by
  intro z hz
  obtain ⟨j, hj, rfl⟩ := List.getElem_of_mem hz
  have := h.2.2.1 j
  simpa [List.getD, List.getElem?_eq_getElem hj] using this
/-- A row of the call's own that isn't empty, with all that is known of it. -/
theorem own_at {w : World} {B : Nat} {v : Value} {zs : List Int} (h : Own w B v zs) (hz : ∀ z ∈ zs, 0 ≤ z ∧ z < 256) (L : Nat) (hL : zs.length = L) (h0 : 0 < L) :
    ∃ g cap, v = .slice (some ⟨g, 0, none⟩) L cap ∧ L ≤ cap ∧ cap ≤ 9223372036854775807 ∧ Bs w (some ⟨g, 0, none⟩) L cap zs := by
  subst hL
  obtain ⟨ao, cap, rfl, hcm, hbs, hwh⟩ := own_bs h (range_of hz)
  obtain ⟨b, off, rfl, _⟩ := hbs.2.2.2 h0
  obtain ⟨_, _, rfl⟩ := hwh b off rfl
  unfold maxLen at hcm
  exact ⟨b, cap, rfl, hbs.2.1.1, hcm, hbs⟩

set_option maxHeartbeats 2000000 in
theorem puts_core (a0 : Option Addr) (len0 cap0 : Nat) (zs : List Int) (n i : Int) (w : World) (h : Bs w a0 len0 cap0 zs) (hl : len0 ≤ 1000) (h0 : 0 ≤ n) (h1 : n ≤ 18446744073709551615) (h2 : -9223372036854775808 ≤ i) (h3 : i ≤ 9223372036854775807)
    (sB sN sE sP sQ : ByteArray) (LP LQ : Nat) (hsB : Hid (strOfNums zs = sB)) (hsN : Hid (strOfNums (pu n) = sN)) (hsE : Hid (strOfNums (e8 n 8) = sE)) (hsP : Hid (strOfNums (zs ++ pu n) = sP)) (hsQ : Hid (strOfNums (zs ++ e8 n 8) = sQ))
    (tB : sB.size + sN.size ≤ 100000) (tE : sB.size + sE.size ≤ 100000) (kP : (sP.toList == (sB ++ sN).toList) = true) (kQ : (sQ.toList == (sB ++ sE).toList) = true) (hLP : Hid ((zs ++ pu n).length = LP)) (hLQ : Hid ((zs ++ e8 n 8).length = LQ)) :
    Calls Try.prog 5 #[.slice a0 len0 cap0, .int .u64 n, .int .i64 i] w fun e w' => e = .returned (.bool true) ∧ Below w.heap.size w w' := by
  have H := hide h
  clear h
  have hzs := hide H.out.1
  have hzr := hide (bs_range H.out)
  have hk1 : len0 < LP := by have := hLP.out; rw [List.length_append, hzs.out] at this; have := pu_len n; omega
  have hk2 : len0 + 8 = LQ := by have := hLQ.out; rw [List.length_append, hzs.out, e8_len] at this; exact this
  have hk2' : len0 < LQ := by omega
  have HK2 := hide hk2
  have hkp : Hid (LP - len0 = (pu n).length) := hide (by have := hLP.out; rw [List.length_append, hzs.out] at this; omega)
  clear hk2
  go_enter Try.func5, Try.ntmps5
  go_wp2_with fail
  refine (put_any a0 len0 cap0 zs _ n h0 h1 (by omega) H.out).mono ?_
  rintro e w1 ⟨v, rfl, ho1, hb1⟩
  obtain ⟨g1, cap1, hv1, hcp1, hcm1, hbs1⟩ := own_at ho1 (cat_range hzr.out (pu_range n h0 h1)) LP hLP.out (by omega)
  rw [hv1]
  have HB1 := hide hb1
  have HS1 := hide hbs1
  clear ho1 hb1 hv1 hbs1
  go_wp2_with fail
  refine (eight_any a0 len0 cap0 zs _ n h0 h1 (by omega) (H.out.below HB1.out (Nat.le_refl _))).mono ?_
  rintro e w2 ⟨v, rfl, ho2, hb2⟩
  obtain ⟨g2, cap2, hv2, hcp2, hcm2, hbs2⟩ := own_at ho2 (cat_range hzr.out (e8_range n)) LQ hLQ.out (by omega)
  rw [hv2]
  have HB2 := hide hb2
  have HS2 := hide hbs2
  clear ho2 hb2 hv2 hbs2
  have HP : Hid (∀ W, Below w2.heap.size w2 W → (convert 23 9 (.slice (some ⟨g1, 0, none⟩) LP cap1)).run Try.prog W = .ok (.string sP) W) := hide fun W hW => by
    have := conv_bs ((HS1.out.below HB2.out (Nat.le_refl _)).below hW (Nat.le_refl _)); rwa [hsP.out] at this
  have HQ : Hid (∀ W, Below w2.heap.size w2 W → (convert 23 9 (.slice (some ⟨g2, 0, none⟩) LQ cap2)).run Try.prog W = .ok (.string sQ) W) := hide fun W hW => by
    have := conv_bs (HS2.out.below hW (Nat.le_refl _)); rwa [hsQ.out] at this
  have HBB : Hid (∀ W, Below w2.heap.size w2 W → (convert 23 9 (.slice a0 len0 cap0)).run Try.prog W = .ok (.string sB) W) := hide fun W hW => by
    have := conv_bs (((H.out.below HB1.out (Nat.le_refl _)).below HB2.out (Nat.le_refl _)).below hW (Nat.le_refl _)); rwa [hsB.out] at this
  have p0 : ∀ p : Kp w2, (convert 23 9 (.slice (some ⟨g1, 0, none⟩) LP cap1)).run Try.prog p.W = .ok (.string sP) p.W := fun p => HP.out _ p.h
  have q0 : ∀ p : Kp w2, (convert 23 9 (.slice (some ⟨g2, 0, none⟩) LQ cap2)).run Try.prog p.W = .ok (.string sQ) p.W := fun p => HQ.out _ p.h
  have b0 : ∀ p : Kp w2, (convert 23 9 (.slice a0 len0 cap0)).run Try.prog p.W = .ok (.string sB) p.W := fun p => HBB.out _ p.h
  clear HP HQ HBB
  have kB : ∀ W, (Op.stringOp .add sB sN).run Try.prog W = .ok (.string (sB ++ sN)) W := fun W => run_string_add_sum W _ _ (by omega)
  have kE : ∀ W, (Op.stringOp .add sB sE).run Try.prog W = .ok (.string (sB ++ sE)) W := fun W => run_string_add_sum W _ _ (by omega)
  go_wp2_with fail
  have hne : Nonempty (Kp w2) := ⟨⟨w2, Below.refl _ _⟩⟩
  have cN : Hid (∀ p : Kp w2, Calls Try.prog 15 #[.int .u64 n] p.W fun e w'' => e = .returned (.string sN) ∧ ∃ q : Kp w2, w'' = q.W) := hide fun p => kp_call (by rw [← hsN.out]; exact refnum_any _ n h0 h1)
  have cE : Hid (∀ p : Kp w2, Calls Try.prog 16 #[.int .u64 n] p.W fun e w'' => e = .returned (.string sE) ∧ ∃ q : Kp w2, w'' = q.W) := hide fun p => kp_call (by rw [← hsE.out]; exact refeight_any _ n h0 h1)
  refine wp_region_kept (by kernel_rfl) (by kernel_rfl) ?_
  repeat (first
    | go_big_quiet_step (first | (go_at_call 15; exact cN.out _) | (go_at_call 16; exact cE.out _))
    | fail)
  refine wpQuiet_nil ?_
  intro w3 hw'
  have HB3 : Hid (Below w2.heap.size w2 w3) := by
    obtain ⟨⟨w3', hb3⟩, hw''⟩ := hw'
    rw [hw'']; exact hb3
  clear hw' p0 q0 b0 hne cN cE kB kE kP kQ
  have hs1 : Bs w3 (some ⟨g1, len0, none⟩) (LP - len0) (cap1 - len0) (pu n) := by
    have := ((HS1.out.below HB2.out (Nat.le_refl _)).below HB3.out (Nat.le_refl _)).drop len0 (by omega)
    rwa [List.drop_append_of_le_length (by rw [hzs.out]; exact Nat.le_refl _), List.drop_of_length_le (by rw [hzs.out]; exact Nat.le_refl _), List.nil_append] at this
  have hs2 : Bs w3 (some ⟨g2, len0, none⟩) (LQ - len0) (cap2 - len0) (e8 n 8) := by
    have := (HS2.out.below HB3.out (Nat.le_refl _)).drop len0 (by omega)
    rwa [List.drop_append_of_le_length (by rw [hzs.out]; exact Nat.le_refl _), List.drop_of_length_le (by rw [hzs.out]; exact Nat.le_refl _), List.nil_append] at this
  have K1 := hide hs1
  have K2 := hide hs2
  clear hs1 hs2 HS1 HS2
  go_wp2_with fail
  refine (take_any _ (LP - len0) (cap1 - len0) (pu n) _ (by omega) K1.out).mono ?_
  rw [show tk (pu n) 0 0 = (n, (LP : Int) - (len0 : Int), 0) from by
    have := tk_pu n [] h0 h1
    rw [List.append_nil] at this
    rw [this, ← hkp.out]
    refine Prod.ext rfl (Prod.ext ?_ rfl)
    simp only
    omega]
  rintro e w4 ⟨rfl, rfl⟩
  unfold tup
  go_wp2_with fail
  refine (uneight_any _ (LQ - len0) (cap2 - len0) (e8 n 8) _ (by omega) K2.out).mono ?_
  rw [ue_e8 n h0 h1]
  rintro e w5 ⟨rfl, rfl⟩
  unfold tup2
  have hU := usgn_sgn i
  have hV := sgn_usgn n h0
  have hs := sgn_range i h2 h3
  have ht := usgn_range n h0 h1
  go_wp2_with (first
    | (go_at_call 18; refine (sign_any _ _ ?_ ?_).mono ?_; rotate_left 2; rintro e w' ⟨rfl, rfl⟩; rotate_right 2; omega; omega)
    | (go_at_call 19; refine (refsign_any _ _ ?_ ?_).mono ?_; rotate_left 2; rintro e w' ⟨rfl, rfl⟩; rotate_right 2; omega; omega)
    | (go_at_call 20; refine (unsign_any _ _ ?_ ?_).mono ?_; rotate_left 2; rintro e w' ⟨rfl, rfl⟩; rotate_right 2; omega; omega)
    | (go_at_call 11; refine (awake_any _).mono ?_; rintro e w' ⟨rfl, hbel⟩))
  go_ret
  refine ⟨rfl, ?_⟩
  have hall := HB1.out.trans ((HB2.out.trans (HB3.out.mono HB2.out.size)).mono HB1.out.size)
  exact hall.trans (hbel.mono hall.size)

theorem str_cat (a b : List Int) : (strOfNums (a ++ b)).toList = (strOfNums a ++ strOfNums b).toList := by
  rw [ByteArray.toList_eq, ByteArray.toList_eq]
  simp [strOfNums]

theorem puts_walk (a0 : Option Addr) (len0 cap0 : Nat) (zs : List Int) (n i : Int) (w : World) (h : Bs w a0 len0 cap0 zs) (hm : len0 ≤ 9223372036854775807) (w1 : (Lit.int .u64 n).wf = true) (w2 : (Lit.int .i64 i).wf = true) :
    Calls Try.prog 5 #[.slice a0 len0 cap0, .int .u64 n, .int .i64 i] w fun e w' => e = .returned (.bool true) ∧ Below w.heap.size w w' := by
  obtain ⟨h0, h1⟩ := u64_bounds w1
  obtain ⟨h2, h3⟩ := i64_bounds w2
  by_cases hl : len0 ≤ 1000
  · have hp := pu_len n
    exact puts_core a0 len0 cap0 zs n i w h hl h0 h1 h2 h3 _ _ _ _ _ _ _ (hide rfl) (hide rfl) (hide rfl) (hide rfl) (hide rfl) (by rw [str_size, str_size, h.1]; omega) (by rw [str_size, str_size, h.1, e8_len]; omega)
      (by rw [str_cat]; simp) (by rw [str_cat]; simp) (hide rfl) (hide rfl)
  · exact puts_long a0 len0 cap0 n i w (by omega) hm

end Go.Proofs.Ytonfnpcgjcicdaa.Clep
