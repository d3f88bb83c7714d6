/- FramePuts, walked: it answers true. For any bytes, any kind, any body. -/
import Derived.Test.YtfcakghegdaeoabRefFrame
import Derived.Test.YtfcakghegdaeoabAwakeC
namespace Go.Proofs.Ytfcakghegdaeoab.Clep
open Go.RowKit
set_option linter.unusedVariables false

set_option maxHeartbeats 800000 in
theorem fputs_core (a0 a2 : Option Addr) (len0 cap0 len2 cap2 : Nat) (zs ys : List Int) (k : Int) (w : World) (h0 : Bs w a0 len0 cap0 zs) (h2 : Bs w a2 len2 cap2 ys) (m0 : len0 ≤ 2000) (m2 : len2 ≤ 3000) (hk : 1 ≤ k) (hk2 : k ≤ 100) :
    Calls Try.prog 5 #[.slice a0 len0 cap0, .int .i64 k, .slice a2 len2 cap2] w fun e w' => e = .returned (.bool true) ∧ Below w.heap.size w w' := by
  obtain ⟨L, hL⟩ : ∃ L, L = len0 + len2 + 12 := ⟨_, rfl⟩
  have hr0 := bs_range h0
  have hr2 : ByteL ys := bs_range h2
  have l0 := h0.1
  have l2 := h2.1
  have hP := hide (fput_any a0 a2 len0 cap0 len2 cap2 zs ys k w hk hk2 (by omega) (by omega) h0 h2)
  have hO := hide (fun W => frameok_any k len2 W)
  rw [show fk k len2 = 0 from by unfold fk; rw [if_neg (by omega), if_neg (by omega)]] at hO
  have E1 := hide (fr_ce k ys [] hk hk2 (by omega) hr2)
  have E2 := hide (fr_kd k ys [])
  have E3 := hide (fr_ln k ys [] (by omega))
  have E4 := hide (fr_bo k ys [] (by omega))
  have hfr : ByteL (fr k ys) := fr_range k ys hk hk2 (by omega) hr2
  have hF := hide (fun W => refframe_any k (strOfNums ys) ys W hk hk2 rfl (by omega) hr2)
  have ER := hide (show ByteL (zs ++ fr k ys) from ByteL.append hr0 hfr)
  have EL := hide (show (zs ++ fr k ys).length = L from by rw [List.length_append, fr_len, l0, l2, hL]; omega)
  have ED := hide (drop_app zs (fr k ys) len0 l0)
  simp only [List.append_nil, l2] at E1 E2 E3 E4
  have hadd : ∀ W, (Op.stringOp .add (strOfNums zs) (strOfNums (fr k ys))).run Try.prog W = .ok (.string (strOfNums (zs ++ fr k ys))) W := fun W => by
    rw [← str_app]
    exact run_string_add_sum W _ _ (by rw [str_size, str_size, fr_len]; omega)
  have HC0 := hide (fun W (hW : Below w.heap.size w W) => conv_bs (h0.below hW (Nat.le_refl _)))
  have HC2 := hide (fun W (hW : Below w.heap.size w W) => conv_bs (h2.below hW (Nat.le_refl _)))
  have HL := hide hL
  have hL1 : L ≤ 5012 := by omega
  have hL2 : len0 ≤ L := by omega
  have hL3 : 0 < L := by omega
  clear h0 h2 hr0 hfr hL
  go_enter Try.func5, Try.ntmps5
  go_wp2_with fail
  refine hP.out.mono ?_
  rintro e w1 ⟨v1, rfl, ho1, hb1⟩
  obtain ⟨g1, c1, rfl, -, -, hbs1⟩ := own_at ho1 ER.out (L) EL.out (by omega)
  have HB1 := hide hb1
  have HS1 := hide hbs1
  clear ho1 hb1 hbs1 hP
  go_wp2_with fail
  refine (hO.out _).mono ?_
  rintro e w2 ⟨rfl, rfl⟩
  clear hO
  go_wp2_with fail
  refine (ftake_good _ _ c1 (zs ++ fr k ys) len0 w2 (by omega) HS1.out (by omega) (fr k ys) ED.out.symm E1.out).mono ?_
  rintro e w3 ⟨v3, rfl, ho3, hb3⟩
  rw [E2.out, E3.out, show (len0 : Int) + 12 + (len2 : Int) = ((L : Nat) : Int) from by have := HL.out; omega]
  rw [E4.out] at ho3
  obtain ⟨a3, c3, hv3, hcv3⟩ := own_conv ho3 hr2 len2 l2
  subst hv3
  have HX : Hid (∀ W, Below w3.heap.size w3 W → (convert 22 9 (.slice (some ⟨g1, 0, none⟩) (L) c1)).run Try.prog W = .ok (.string (strOfNums (zs ++ fr k ys))) W) := hide fun W hW => by
    exact conv_bs ((HS1.out.below hb3 (Nat.le_refl _)).below hW (Nat.le_refl _))
  have HB3 := hide (HB1.out.trans (hb3.mono HB1.out.size))
  have p0 : ∀ p : Kp w3, (convert 22 9 (.slice (some ⟨g1, 0, none⟩) (L) c1)).run Try.prog p.W = .ok (.string (strOfNums (zs ++ fr k ys))) p.W := fun p => HX.out _ p.h
  have q0 : ∀ p : Kp w3, (convert 22 9 (.slice a0 len0 cap0)).run Try.prog p.W = .ok (.string (strOfNums zs)) p.W := fun p => HC0.out _ (HB3.out.trans (p.h.mono HB3.out.size))
  have r0 : ∀ p : Kp w3, (convert 22 9 (.slice a2 len2 cap2)).run Try.prog p.W = .ok (.string (strOfNums ys)) p.W := fun p => HC2.out _ (HB3.out.trans (p.h.mono HB3.out.size))
  have s0 : ∀ p : Kp w3, (convert 22 9 (.slice a3 len2 c3)).run Try.prog p.W = .ok (.string (strOfNums ys)) p.W := fun p => hcv3.out _ p.h
  have hne : Nonempty (Kp w3) := ⟨⟨w3, Below.refl _ _⟩⟩
  have cF : Hid (∀ p : Kp w3, Calls Try.prog 17 #[.int .i64 k, .string (strOfNums ys)] p.W fun e w'' => e = .returned (.string (strOfNums (fr k ys))) ∧ ∃ q : Kp w3, w'' = q.W) := hide fun p => kp_call (hF.out _)
  have cA : Hid (∀ p : Kp w3, Calls Try.prog 12 #[] p.W fun e w'' => e = .returned (.bool true) ∧ ∃ q : Kp w3, w'' = q.W) := hide fun p => kp_call (awakeC_any _)
  have z1 : (strOfNums (zs ++ fr k ys)).size = L := by rw [str_size, EL.out]
  have z2 : (strOfNums zs).size = len0 := by rw [str_size, l0]
  have z3 : (strOfNums ys).size = len2 := by rw [str_size, l2]
  generalize strOfNums (zs ++ fr k ys) = SX at *
  generalize strOfNums (fr k ys) = SF at *
  generalize strOfNums zs = SB at *
  generalize strOfNums ys = SY at *
  clear ho3 hcv3 hb3 HX HC0 HC2 HS1 HB1 E1 E2 E3 E4 ER EL ED hF hr2
  go_wp2_with fail
  refine wp_region_kept (by kernel_rfl) (by kernel_rfl) ?_
  repeat (first
    | go_big_quiet_step (first | (go_at_call 17; exact cF.out _) | (go_at_call 12; exact cA.out _))
    | fail)
  refine wpQuiet_nil ?_
  intro w4 hw'
  have HB4 : Hid (Below w.heap.size w w4) := by
    obtain ⟨⟨w3', hb3⟩, hw''⟩ := hw'
    rw [hw'']; exact hide (HB3.out.trans (hb3.mono HB3.out.size))
  clear hw' hne cF cA p0 q0 r0 s0
  go_wp2
  go_ret
  exact ⟨rfl, HB4.out⟩

theorem fputs_long (a0 a2 : Option Addr) (len0 cap0 len2 cap2 : Nat) (k : Int) (w : World) (m0 : len0 ≤ 9223372036854775807) (m2 : len2 ≤ 9223372036854775807) (h : 2000 < len0 ∨ 3000 < len2) :
    Calls Try.prog 5 #[.slice a0 len0 cap0, .int .i64 k, .slice a2 len2 cap2] w fun e w' => e = .returned (.bool true) ∧ Below w.heap.size w w' := by
  by_cases h1 : 2000 < len0
  · go_enter Try.func5, Try.ntmps5
    go_wp2_with fail
    refine (awakeC_any w).mono ?_
    rintro e w1 ⟨rfl, hb⟩
    have HB := hide hb
    clear hb
    go_wp2
    go_ret
    exact ⟨rfl, HB.out⟩
  · have h2 : 3000 < len2 := by omega
    go_enter Try.func5, Try.ntmps5
    go_wp2_with fail
    refine (awakeC_any w).mono ?_
    rintro e w1 ⟨rfl, hb⟩
    have HB := hide hb
    clear hb
    go_wp2
    go_ret
    exact ⟨rfl, HB.out⟩

theorem fputs_arg (a0 a2 : Option Addr) (len0 cap0 len2 cap2 : Nat) (k : Int) (w : World) (m0 : len0 ≤ 2000) (m2 : len2 ≤ 3000) (hk : k < 1 ∨ 100 < k) :
    Calls Try.prog 5 #[.slice a0 len0 cap0, .int .i64 k, .slice a2 len2 cap2] w fun e w' => e = .returned (.bool true) ∧ Below w.heap.size w w' := by
  have hP := hide (fput_arg a0 a2 len0 cap0 len2 cap2 k w hk)
  have hO := hide (fun W => frameok_any k len2 W)
  rw [show fk k len2 = 1 from by unfold fk; rw [if_pos hk]] at hO
  clear hk
  go_enter Try.func5, Try.ntmps5
  go_wp2_with fail
  refine hP.out.mono ?_
  rintro e w1 ⟨rfl, rfl⟩
  go_wp2_with fail
  refine (hO.out _).mono ?_
  rintro e w2 ⟨rfl, rfl⟩
  clear hO hP
  go_wp2_with fail
  refine (awakeC_any _).mono ?_
  rintro e w3 ⟨rfl, hb⟩
  have HB := hide hb
  clear hb
  go_wp2
  go_ret
  exact ⟨rfl, HB.out⟩

theorem fputs_walk (a0 a2 : Option Addr) (len0 cap0 len2 cap2 : Nat) (zs ys : List Int) (k : Int) (w : World) (h0 : Bs w a0 len0 cap0 zs ∧ len0 ≤ 9223372036854775807) (h2 : Bs w a2 len2 cap2 ys ∧ len2 ≤ 9223372036854775807) :
    Calls Try.prog 5 #[.slice a0 len0 cap0, .int .i64 k, .slice a2 len2 cap2] w fun e w' => e = .returned (.bool true) ∧ Below w.heap.size w w' := by
  by_cases hl : 2000 < len0 ∨ 3000 < len2
  · exact fputs_long a0 a2 len0 cap0 len2 cap2 k w h0.2 h2.2 hl
  · by_cases hk : k < 1 ∨ 100 < k
    · exact fputs_arg a0 a2 len0 cap0 len2 cap2 k w (by omega) (by omega) hk
    · exact fputs_core a0 a2 len0 cap0 len2 cap2 zs ys k w h0.1 h2.1 (by omega) (by omega) (by omega) (by omega)

end Go.Proofs.Ytfcakghegdaeoab.Clep
