/- The statement NumOrders, called at any two numbers, answers true, in new memory alone. No conditions. -/
import Derived.Test.YtonfnpcgjcicdaaTexts
import Derived.Test.YtonfnpcgjcicdaaTakesWalk
import Derived.Deep.RegionWith
namespace Go.Proofs.Ytonfnpcgjcicdaa.Clep
open Go.RowKit
set_option linter.unusedVariables false

theorem own_conv {w : World} {B : Nat} {v : Value} {zs : List Int} (h : Own w B v zs) (hz : ∀ z ∈ zs, 0 ≤ z ∧ z < 256) (L : Nat) (hL : zs.length = L) :
    ∃ ao cap, v = .slice ao L cap ∧ Hid (∀ w', Below w.heap.size w w' → (convert 23 9 (.slice ao L cap)).run Try.prog w' = .ok (.string (strOfNums zs)) w') := by
  subst hL
  obtain ⟨ao, cap, rfl, _, hbs, _⟩ := own_bs h (range_of hz)
  exact ⟨ao, cap, rfl, hide fun w' hb => conv_bs (hbs.below hb (Nat.le_refl _))⟩

set_option maxHeartbeats 2000000 in
theorem orders_up (a b : Int) (h0 : 0 ≤ a) (h1 : a ≤ 18446744073709551615) (h2 : 0 ≤ b) (h3 : b ≤ 18446744073709551615) (hab : a ≤ b) (w : World) (sA sB sP sQ : ByteArray)
    (hsA : Hid (strOfNums (e8 a 8) = sA)) (hsB : Hid (strOfNums (e8 b 8) = sB)) (hsP : Hid (strOfNums (pu a) = sP)) (hsQ : Hid (strOfNums (pu b) = sQ))
    (k8 : ((sA.size : Int) == 8) = true) (kl : Op.bytesLess sA.toList sB.toList = decide (a < b)) (ke : (sA.toList == sB.toList) = (a == b)) (kp : (sP.toList == sQ.toList) = (a == b)) (LP LQ : Nat) (hLP : Hid ((pu a).length = LP)) (hLQ : Hid ((pu b).length = LQ)) (kn : LP ≤ LQ) :
    Calls Try.prog 8 #[.int .u64 a, .int .u64 b] w fun e w' => e = .returned (.bool true) ∧ Below w.heap.size w w' := by
  go_enter Try.func8, Try.ntmps8
  go_wp2
  go_region_with (first
    | (go_at_call_of 14 (Value.int IntKind.u64 a); refine (eight_any none 0 0 [] _ a h0 h1 (by omega) (bs_nil _)).mono ?_; rintro e w1 ⟨v, rfl, ho1, hb1⟩; obtain ⟨ao1, cap1, rfl, hcv1⟩ := own_conv ho1 (e8_range a) 8 (e8_len a 8); have hc1 := hcv1.out _ (Below.refl _ _); rw [List.nil_append, hsA.out] at hc1)
    | (go_at_call_of 14 (Value.int IntKind.u64 b); refine (eight_any none 0 0 [] _ b h2 h3 (by omega) (bs_nil _)).mono ?_; rintro e w2 ⟨v, rfl, ho2, hb2⟩; obtain ⟨ao2, cap2, rfl, hcv2⟩ := own_conv ho2 (e8_range b) 8 (e8_len b 8); have hc2 := hcv2.out _ (Below.refl _ _); rw [List.nil_append, hsB.out] at hc2; have hc12 := hcv1.out _ hb2; rw [List.nil_append, hsA.out] at hc12))
  all_goals
    have HB := hide ((Below.drew (Below.refl _ w)).trans (hb1.trans (hb2.mono hb1.size)))
    clear hc1 hc2 hc12 hcv1 hcv2 ho1 ho2 hb1 hb2
    go_wp2_with fail
    refine (put_any none 0 0 [] _ a h0 h1 (by omega) (bs_nil _)).mono ?_
    rintro e w3 ⟨v, rfl, ho3, hb3⟩
    obtain ⟨ao3, cap3, rfl, hcv3⟩ := own_conv ho3 (pu_range a h0 h1) LP hLP.out
    have HB3 := hide hb3
    clear ho3 hb3
    go_wp2_with fail
    refine (put_any none 0 0 [] _ b h2 h3 (by omega) (bs_nil _)).mono ?_
    rintro e w4 ⟨v, rfl, ho4, hb4⟩
    obtain ⟨ao4, cap4, rfl, hcv4⟩ := own_conv ho4 (pu_range b h2 h3) LQ hLQ.out
    have hc3 := hcv3.out _ hb4
    have hc4 := hcv4.out _ (Below.refl _ _)
    rw [List.nil_append, hsP.out] at hc3
    rw [List.nil_append, hsQ.out] at hc4
    have HB4 := hide (HB.out.trans ((HB3.out.trans (hb4.mono HB3.out.size)).mono HB.out.size))
    clear ho4 hb4 hcv3 hcv4
    go_wp2_with (go_at_call 11; refine (awake_any _).mono ?_; rintro e w' ⟨rfl, hbel⟩)
    go_ret
    exact ⟨rfl, HB4.out.trans (hbel.mono HB4.out.size)⟩

set_option maxHeartbeats 2000000 in
theorem orders_down (a b : Int) (h0 : 0 ≤ a) (h1 : a ≤ 18446744073709551615) (h2 : 0 ≤ b) (h3 : b ≤ 18446744073709551615) (hab : a < b) (w : World) (sA sB sP sQ : ByteArray)
    (hsA : Hid (strOfNums (e8 a 8) = sA)) (hsB : Hid (strOfNums (e8 b 8) = sB)) (hsP : Hid (strOfNums (pu a) = sP)) (hsQ : Hid (strOfNums (pu b) = sQ))
    (k8 : ((sA.size : Int) == 8) = true) (kl : Op.bytesLess sA.toList sB.toList = decide (a < b)) (ke : (sA.toList == sB.toList) = (a == b)) (kp : (sP.toList == sQ.toList) = (a == b)) (LP LQ : Nat) (hLP : Hid ((pu a).length = LP)) (hLQ : Hid ((pu b).length = LQ)) (kn : LP ≤ LQ) :
    Calls Try.prog 8 #[.int .u64 b, .int .u64 a] w fun e w' => e = .returned (.bool true) ∧ Below w.heap.size w w' := by
  go_enter Try.func8, Try.ntmps8
  go_wp2
  go_region_with (first
    | (go_at_call_of 14 (Value.int IntKind.u64 a); refine (eight_any none 0 0 [] _ a h0 h1 (by omega) (bs_nil _)).mono ?_; rintro e w1 ⟨v, rfl, ho1, hb1⟩; obtain ⟨ao1, cap1, rfl, hcv1⟩ := own_conv ho1 (e8_range a) 8 (e8_len a 8); have hc1 := hcv1.out _ (Below.refl _ _); rw [List.nil_append, hsA.out] at hc1)
    | (go_at_call_of 14 (Value.int IntKind.u64 b); refine (eight_any none 0 0 [] _ b h2 h3 (by omega) (bs_nil _)).mono ?_; rintro e w2 ⟨v, rfl, ho2, hb2⟩; obtain ⟨ao2, cap2, rfl, hcv2⟩ := own_conv ho2 (e8_range b) 8 (e8_len b 8); have hc2 := hcv2.out _ (Below.refl _ _); rw [List.nil_append, hsB.out] at hc2; have hc12 := hcv1.out _ hb2; rw [List.nil_append, hsA.out] at hc12))
  all_goals
    have HB := hide ((Below.drew (Below.refl _ w)).trans (hb1.trans (hb2.mono hb1.size)))
    clear hc1 hc2 hc12 hcv1 hcv2 ho1 ho2 hb1 hb2
    go_wp2_with fail
    refine (put_any none 0 0 [] _ a h0 h1 (by omega) (bs_nil _)).mono ?_
    rintro e w3 ⟨v, rfl, ho3, hb3⟩
    obtain ⟨ao3, cap3, rfl, hcv3⟩ := own_conv ho3 (pu_range a h0 h1) LP hLP.out
    have HB3 := hide hb3
    clear ho3 hb3
    go_wp2_with fail
    refine (put_any none 0 0 [] _ b h2 h3 (by omega) (bs_nil _)).mono ?_
    rintro e w4 ⟨v, rfl, ho4, hb4⟩
    obtain ⟨ao4, cap4, rfl, hcv4⟩ := own_conv ho4 (pu_range b h2 h3) LQ hLQ.out
    have hc3 := hcv3.out _ hb4
    have hc4 := hcv4.out _ (Below.refl _ _)
    rw [List.nil_append, hsP.out] at hc3
    rw [List.nil_append, hsQ.out] at hc4
    have HB4 := hide (HB.out.trans ((HB3.out.trans (hb4.mono HB3.out.size)).mono HB.out.size))
    clear ho4 hb4 hcv3 hcv4
    go_wp2_with (go_at_call 11; refine (awake_any _).mono ?_; rintro e w' ⟨rfl, hbel⟩)
    go_ret
    exact ⟨rfl, HB4.out.trans (hbel.mono HB4.out.size)⟩

theorem orders_walk (a0 a1 : Int) (w0 : (Lit.int .u64 a0).wf = true) (w1 : (Lit.int .u64 a1).wf = true) (w : World) :
    Calls Try.prog 8 #[.int .u64 a0, .int .u64 a1] w fun e w' => e = .returned (.bool true) ∧ Below w.heap.size w w' := by
  obtain ⟨h0, h1⟩ := u64_bounds w0
  obtain ⟨h2, h3⟩ := u64_bounds w1
  have k8 : ∀ a, (((strOfNums (e8 a 8)).size : Int) == 8) = true := fun a => by rw [str_size, e8_len]; rfl
  by_cases hab : a0 ≤ a1
  · exact orders_up a0 a1 h0 h1 h2 h3 hab w _ _ _ _ (hide rfl) (hide rfl) (hide rfl) (hide rfl) (k8 _) (eight_less a0 a1 h0 h1 h2 h3) (eight_eq a0 a1 h0 h1 h2 h3) (put_eq a0 a1 h0 h1 h2 h3) _ _ (hide rfl) (hide rfl) (enc_mono 9 a0 a1 hab)
  · exact orders_down a1 a0 h2 h3 h0 h1 (by omega) w _ _ _ _ (hide rfl) (hide rfl) (hide rfl) (hide rfl) (k8 _) (eight_less a1 a0 h2 h3 h0 h1) (eight_eq a1 a0 h2 h3 h0 h1) (put_eq a1 a0 h2 h3 h0 h1) _ _ (hide rfl) (hide rfl) (enc_mono 9 a1 a0 (by omega))

end Go.Proofs.Ytonfnpcgjcicdaa.Clep
