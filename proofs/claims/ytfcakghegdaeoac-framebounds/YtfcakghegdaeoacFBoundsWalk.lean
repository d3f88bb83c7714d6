/- FrameBounds, walked: it answers true. For any two numbers. -/
import Derived.Test.YtfcakghegdaeoacAwakeC
import Derived.Test.YtfcakghegdaeoacMask
namespace Go.Proofs.Ytfcakghegdaeoac.Clep
open Go.RowKit
set_option linter.unusedVariables false

theorem zeros_row (n : Nat) : (madeCells #[Value.int IntKind.u8 0] n).toList = bv (List.replicate n 0) := by
  rw [toList_madeCells_one]; simp [bv]

set_option maxHeartbeats 800000 in
theorem fbounds_walk (x y : Int) (w : World) :
    Calls Try.prog 3 #[.int .i64 x, .int .i64 y] w fun e w' => e = .returned (.bool true) ∧ Below w.heap.size w w' := by
  obtain ⟨i0, hi, hz0, hz1, hz2⟩ := info_parts info5
  have hx := and_mask x 255 (by decide)
  have hy := and_mask y 31 (by decide)
  rw [show (((255 : Nat) : Int)) = 255 from rfl] at hx
  rw [show (((31 : Nat) : Int)) = 31 from rfl] at hy
  generalize hX : bits BinOp.and IntKind.i64 x 255 = a at *
  generalize hY : bits BinOp.and IntKind.i64 y 31 = b at *
  obtain ⟨B, rfl⟩ := Int.eq_ofNat_of_zero_le hy.1
  generalize hn : B + 59985 = n at *
  have hr : ByteL (List.replicate n (0 : Int)) := fun z hz => by have := (List.mem_replicate.1 hz).2; omega
  have hBn : (B : Int) + 59985 = (n : Int) := by omega
  have hn1 : n ≤ 60016 := by omega
  generalize hk : a - 20 = k at *
  have hk1 : -20 ≤ k := by omega
  have hk2 : k ≤ 235 := by omega
  have HX := hide hx
  clear hx
  go_enter Try.func3, Try.ntmps3
  go_wp2_with (first
    | (at_make; refine wpList_make_full _ rfl _ _ 22 rfl w.heap.size 5 i0 (.int .u8 0) 1 Try.underlying22 hi hz0 hz1 .i64 .i64 n n n rfl rfl rfl rfl ?c1 ?c2 ?c3 ?_)
    | fail)
  case c1 => rw [hz2]; omega
  case c2 => unfold maxLen; omega
  case c3 => exact Nat.le_refl _
  intro w1 hown hg
  rw [zeros_row] at hown
  have hO : Own w1 w.heap.size (.slice (some ⟨w.heap.size, 0, none⟩) n n) (List.replicate n 0) := by
    unfold Own; rw [List.length_replicate]; exact hown
  have HB1 := hide ((Below.refl _ w).grown hg (Nat.le_refl _) (fun k hk => by cases hk))
  obtain ⟨ao, cc, hv, -, hbs, -⟩ := own_bs hO (range_of hr)
  rw [List.length_replicate] at hv hbs
  cases hv
  have HS := hide hbs
  clear hown hg hO hbs hX hY hk hn
  by_cases hka : k < 1 ∨ 100 < k
  · have hA := hide (fput_arg none (some ⟨w.heap.size, 0, none⟩) 0 0 n n k w1 hka)
    go_wp2_with fail
    refine hA.out.mono ?_
    rintro e w2 ⟨rfl, rfl⟩
    clear hA HS
    have hd : (decide (k < 1) || decide (100 < k)) = true := by simp; omega
    by_cases hkb : k < 1
    · go_wp2_with fail
      refine (awakeC_any w2).mono ?_
      rintro e w3 ⟨rfl, hb3⟩
      have HB3 := hide (HB1.out.trans (hb3.mono HB1.out.size))
      clear hb3
      go_wp2
      go_ret
      exact ⟨rfl, HB3.out⟩
    · have hkc : 100 < k := by omega
      go_wp2_with fail
      refine (awakeC_any w2).mono ?_
      rintro e w3 ⟨rfl, hb3⟩
      have HB3 := hide (HB1.out.trans (hb3.mono HB1.out.size))
      clear hb3
      go_wp2
      go_ret
      exact ⟨rfl, HB3.out⟩
  · have hkb : ¬ k < 1 := by omega
    have hkc : ¬ 100 < k := by omega
    clear hka
    by_cases hl : 60000 < n
    · have hA := hide (fput_long none (some ⟨w.heap.size, 0, none⟩) 0 0 n n k w1 (by omega) (by omega) hl (by omega))
      go_wp2_with fail
      refine hA.out.mono ?_
      rintro e w2 ⟨rfl, rfl⟩
      clear hA HS
      go_wp2_with fail
      refine (awakeC_any w2).mono ?_
      rintro e w3 ⟨rfl, hb3⟩
      have HB3 := hide (HB1.out.trans (hb3.mono HB1.out.size))
      clear hb3
      go_wp2
      go_ret
      exact ⟨rfl, HB3.out⟩
    · have hrl : (List.replicate n (0 : Int)).length = n := List.length_replicate
      have hA := hide (fput_any none (some ⟨w.heap.size, 0, none⟩) 0 0 n n [] (List.replicate n 0) k w1 (by omega) (by omega) (by omega) (by omega) (bs_nil w1) HS.out)
      have E1 := hide (fr_ce k (List.replicate n 0) [] (by omega) (by omega) (by omega) hr)
      have E2 := hide (fr_kd k (List.replicate n 0) [])
      have E3 := hide (fr_ln k (List.replicate n 0) [] (by omega))
      have E4 := hide (fr_bo k (List.replicate n 0) [] (by omega))
      have ER := hide (fr_range k (List.replicate n 0) (by omega) (by omega) (by omega) hr)
      have EL := hide (fr_len k (List.replicate n 0))
      simp only [List.append_nil, List.nil_append, hrl] at E1 E2 E3 E4 EL hA
      clear hrl
      generalize fr k (List.replicate n 0) = F at *
      go_wp2_with fail
      refine hA.out.mono ?_
      rintro e w2 ⟨v2, rfl, ho2, hb2⟩
      obtain ⟨g, c, rfl, -, -, hbs2⟩ := own_at ho2 ER.out (n + 12) EL.out (by omega)
      have HB2 := hide (HB1.out.trans (hb2.mono HB1.out.size))
      have HS2 := hide hbs2
      clear ho2 hb2 hbs2 hA HS HB1
      go_wp2_with fail
      refine (ftake_good _ (n + 12) c F 0 w2 (by omega) HS2.out (by omega) F rfl E1.out).mono ?_
      rintro e w3 ⟨v3, rfl, ho3, hb3⟩
      rw [E2.out, E3.out]
      rw [E4.out] at ho3
      obtain ⟨a3, c3, hv3, -, -, -⟩ := own_bs ho3 (range_of hr)
      rw [List.length_replicate] at hv3
      subst hv3
      have HB3 := hide (HB2.out.trans (hb3.mono HB2.out.size))
      clear ho3 hb3 HS2 HB2
      go_wp2_with fail
      refine (ftake_arg _ (n + 12) c (-1) w3 (by omega) (by omega)).mono ?_
      rintro e w4 ⟨rfl, rfl⟩
      go_wp2_with fail
      refine (ftake_arg _ (n + 12) c _ w4 (by omega) (by omega)).mono ?_
      rintro e w5 ⟨rfl, rfl⟩
      go_wp2_with fail
      refine (awakeC_any w5).mono ?_
      rintro e w6 ⟨rfl, hb6⟩
      have HB6 := hide (HB3.out.trans (hb6.mono HB3.out.size))
      clear hb6
      go_wp2
      go_ret
      exact ⟨rfl, HB6.out⟩

end Go.Proofs.Ytfcakghegdaeoac.Clep
