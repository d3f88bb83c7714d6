/- BloomSizes, the walk over the translated program: for any two numbers. No conditions. -/
import Derived.Test.YtjphnflahpcaiaaBOne
import Derived.Test.YtjphnflahpcaiaaBRefB
import Derived.Test.YtjphnflahpcaiaaMask
namespace Go.Proofs.Ytjphnflahpcaiaa.Clep
open Go.RowKit
set_option linter.unusedVariables false

set_option maxRecDepth 100000 in
set_option maxHeartbeats 1600000 in
theorem sizes_any (n b : Int) (w : World) :
    Calls Try.prog 4 #[.int .i64 n, .int .i64 b] w fun e w' => e = .returned (.bool true) ∧ Below w.heap.size w w' := by
  obtain ⟨h1, h2⟩ := and_mask n 16383 (by decide)
  obtain ⟨x, hx⟩ := Int.eq_ofNat_of_zero_le h1
  obtain ⟨h3, h4⟩ := and_mask b 31 (by decide)
  obtain ⟨y, hy⟩ := Int.eq_ofNat_of_zero_le h3
  have hx' : bits BinOp.and IntKind.i64 n 16383 = (x : Int) := hx
  have hy' : bits BinOp.and IntKind.i64 b 31 = (y : Int) := hy
  clear h1 h2 h3 h4 hx hy
  cases hok : szOk x y with
  | false =>
    have C1 := hide (new_bad x y w hok)
    have C2 := hide (refnew_bad x y w hok)
    clear hok
    go_enter Try.func4, Try.ntmps4
    go_wp2_with fail
    refine C1.out.mono ?_
    rintro e w1 ⟨rfl, rfl⟩
    go_wp2_with fail
    refine C2.out.mono ?_
    rintro e w2 ⟨rfl, rfl⟩
    clear C1 C2
    go_wp2_with fail
    refine (awake_any w2).mono ?_
    rintro e w3 ⟨rfl, hb⟩
    have HB := hide hb
    clear hb
    go_wp2
    go_ret
    exact ⟨rfl, HB.out⟩
  | true =>
    have hr : x ≤ 10000 ∧ 1 ≤ y ∧ y ≤ 20 := by
      simp only [szOk, Bool.and_eq_true, decide_eq_true_eq] at hok; omega
    have C1 := hide (one_new w w (fun _ => False) x y hr.1 hr.2 (Nat.le_refl _) (fun b e => e.elim))
    have C2 := hide (fun W => refnew_ok x y W hr.1 hr.2)
    have hk := kOf_range y hr.2.2
    have hs := sOf_range x y hr.1 hr.2.2
    clear hok hr
    generalize kOf y = k at *
    generalize sOf x y = sz at *
    go_enter Try.func4, Try.ntmps4
    go_wp2_with fail
    refine C1.out.mono ?_
    rintro e w1 ⟨M, rfl, h1, b1, -, -⟩
    have O1 := hide h1
    have B1 := hide b1
    clear h1 b1 C1
    go_wp2_with fail
    refine (C2.out w1).mono ?_
    rintro e w2 ⟨R, rfl, D, h1, b1, r1, r2⟩
    have R2 := hide h1
    have B2 := hide (bmore B1.out b1)
    have O2 := hide (One.more (G := fun b => b = R ∨ b = D) O1.out w2 b1 (fun b e => by
      have q1 := h1.head.lt
      have q2 := h1.bits.lt
      rcases e with rfl | rfl
      · exact .inr ⟨r1, q1⟩
      · exact .inr ⟨r2, q2⟩))
    clear h1 b1 C2 r1 r2 O1
    have CO := hide (one_ones w w2 (fun b => b = R ∨ b = D) M k sz 0 O2.out)
    rw [pc_zero] at CO
    go_wp2_with fail
    refine CO.out.mono ?_
    rintro e w3 ⟨rfl, h1, h2⟩
    have O3 := hide h1
    have B3 := hide (h2.below B2.out)
    have R3 := hide (R2.out.ch h2 (fun e => e.2 (.inl rfl)) (fun e => e.2 (.inr rfl)))
    have CB := hide (one_bytes w w3 (fun b => b = R ∨ b = D) M k sz 0 O3.out)
    clear h1 h2 CO
    go_wp2_with fail
    refine CB.out.mono ?_
    rintro e w4 ⟨v, rfl, h0, h1, h2, -⟩
    obtain ⟨ao, cap, rfl, hcap, -, -⟩ := own_bs h0 (range_of (fb_range k sz 0 hk.2 hs.2))
    have O4 := hide h1
    have B4 := hide (h2.below B3.out)
    have R4 := hide (R3.out.ch h2 (fun e => e.2 (.inl rfl)) (fun e => e.2 (.inr rfl)))
    have CR := hide (refbytes_any w4 R sz k sz 0 (some ⟨D, 0, none⟩) R4.out.rf hk hs)
    have hlen : (strOfNums (fb k sz 0)).size = (fb k sz 0).length := str_size _
    have hl : (fb k sz 0).length ≤ 100000 := by rw [fb_len]; have := pu_len k; have := pu_len sz; omega
    clear h0 h1 h2 CB
    generalize (fb k sz 0).length = L at *
    generalize strOfNums (fb k sz 0) = S at *
    go_wp2_with fail
    refine CR.out.mono ?_
    rintro e w5 ⟨rfl, hb⟩
    have O5 := hide (O4.out.keep hb)
    have B5 := hide (bmore B4.out hb)
    have CH := hide (one_has w w5 (fun b => b = R ∨ b = D) M k sz 0 O5.out none 0 0 [] (by omega) (bs_nil _) (fun h => by omega))
    rw [hask_zero _ _ _ (by omega)] at CH
    clear hb CR
    go_wp2_with fail
    refine CH.out.mono ?_
    rintro e w6 ⟨rfl, h1, h2⟩
    have B6 := hide (h2.below B5.out)
    clear h1 h2 CH
    go_wp2_with fail
    refine (awake_any w6).mono ?_
    rintro e w7 ⟨rfl, hb⟩
    have HB := hide (bmore B6.out hb)
    clear hb
    go_wp2
    go_ret
    exact ⟨rfl, HB.out⟩

end Go.Proofs.Ytjphnflahpcaiaa.Clep
