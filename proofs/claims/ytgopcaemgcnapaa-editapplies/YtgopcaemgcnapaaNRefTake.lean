/- What the own Take and Sign of the document do when called: for any text, any whole number. No conditions. -/
import Derived.Test.YtgopcaemgcnapaaNTake
namespace Go.Proofs.Ytgopcaemgcnapaa.Clep
open Go.RowKit
set_option linter.unusedVariables false
set_option maxRecDepth 10000

theorem or_shift2 (N c : Int) (k : Nat) (hk : k ≤ 9) (hN : 0 ≤ N ∧ N < 2 ^ (7 * k)) (h0 : 0 ≤ c) (hc : c < 256) (h9 : k = 9 → c ≤ 1) :
    bits BinOp.or IntKind.u64 N (IntKind.u64.wrap (bits BinOp.and IntKind.u64 c 127 * 2 ^ (7 * k))) = N + (c % 128) * 2 ^ (7 * k) := by
  have e := or_shift N c k hk hN h0 hc h9
  rw [← e]
  obtain ⟨C, rfl⟩ := Int.eq_ofNat_of_zero_le h0
  rw [show (127 : Int) = ((127 : Nat) : Int) from rfl, show (128 : Int) = ((128 : Nat) : Int) from rfl, u64_and_nat C 127 (by omega) (by omega), nat_mask7,
    u8_andNot_nat C 128 (by omega) (by omega), show 255 - 128 = 127 from rfl, nat_mask7, IntKind.wrap_u64 ((C % 128 : Nat) : Int),
    show ((C % 128 : Nat) : Int) % 18446744073709551616 = ((C % 128 : Nat) : Int) from by omega]
set_option maxHeartbeats 800000 in
theorem reftake_core (s : ByteArray) (zs : List Int) (w : World) (r : Int × Int × Int) (hr : Hid (tk zs 0 0 = r)) (hm : s.size ≤ 9223372036854775807) (hs : Hid (Sz s zs))
    (hz : Hid (∀ i, 0 ≤ zs.getD i 0 ∧ zs.getD i 0 < 256)) :
    Calls Try.prog 45 #[.string s] w fun e w' => e = .returned (tup r) ∧ w' = w := by
  go_enter Try.func45, Try.ntmps45
  go_wp2
  go_loop [5, 6] (fun n i => ∃ k : Nat, ∃ N : Int, k ≤ s.size ∧ k ≤ 9 ∧ i = .int .i64 k ∧ n = .int .u64 N ∧ Hid (tk (zs.drop k) k N = r) ∧ Hid (0 ≤ N ∧ N < 2 ^ (7 * k))) (fun _ i => 10 - (intOf i).toNat)
  case atStart => exact ⟨0, 0, Nat.zero_le _, by omega, rfl, rfl, hide (by simpa using hr.out), hide (by simp)⟩
  case round =>
    obtain ⟨k, N, hk, hk9, rfl, rfl, hT, hN⟩ := hrel
    by_cases hlt : k < s.size
    · have hck := hs.out.2 k hlt
      have hzk := hz.out k
      have hkl : Hid (k < zs.length) := hide (by rw [← hs.out.1]; exact hlt)
      have HO := hide (fun h9 => or_shift2 N (zs.getD k 0) k hk9 hN.out hzk.1 hzk.2 h9)
      have HX := hide (fun h9 hc => tk_over zs k N hkl.out h9 hc)
      have HM := hide (fun h9 hc => tk_more zs k N hkl.out h9 hc)
      have HZ := hide (fun h0 hc => tk_zero zs k N hkl.out h0 hc)
      have HL := hide (fun h9 hc h0 => tk_last zs k N hkl.out h9 hc h0)
      have HS := hide (fun h0 hc => shift_lt N (zs.getD k 0) k hN.out h0 hc)
      generalize zs.getD k 0 = c at *
      by_cases h9 : k = 9
      · have h9b : ((k : Int) == 9) = true := by simp; omega
        have H9 := hide h9
        clear h9
        by_cases hc1 : 1 < c
        · go_wp2
          go_ret3
          exact ⟨ret_eq (by have := hT.out; rw [HX.out H9.out hc1] at this; subst this; rfl), rfl⟩
        · have hcn : c < 128 := by omega
          by_cases hc0 : c = 0
          · have hcb : (c == 0) = true := by simp [hc0]
            have H0 := hide hc0
            have hkp : (0 : Int) < (k : Int) := by have := H9.out; omega
            clear hc0
            go_wp2
            go_ret3
            exact ⟨ret_eq (by have := hT.out; rw [HZ.out (by have := H9.out; omega) H0.out] at this; subst this; rfl), rfl⟩
          · have hcb : (c == 0) = false := by simp; omega
            have hkp : (0 : Int) < (k : Int) := by have := H9.out; omega
            go_wp2
            go_ret3
            refine ⟨ret_eq ?_, rfl⟩
            have := hT.out
            rw [HL.out (by omega) (by omega) (by omega)] at this
            subst this
            have e := HO.out (by omega)
            rw [show c % 128 = c from by omega] at e
            simp only [tup]
            rw [← e]
            rfl
      · have hk9b : ((k : Int) == 9) = false := by simp; omega
        by_cases hc1 : 128 ≤ c
        · go_wp2
          go_round
          case rel =>
            have e := HO.out (by omega)
            rw [show c % 128 = c - 128 from by omega] at e
            exact ⟨k + 1, _, by omega, by omega, by go_num, rfl, hide (by rw [e, ← HM.out (by omega) hc1]; exact hT.out), hide (by rw [e]; exact HS.out hc1 (by omega))⟩
          case measure => simp [intOf]; omega
        · have hcn : c < 128 := by omega
          by_cases hz0 : c = 0 ∧ 0 < k
          · have hcb : (c == 0) = true := by simp [hz0.1]
            have hkp : (0 : Int) < (k : Int) := by omega
            have H0 := hide hz0
            clear hz0
            go_wp2
            go_ret3
            exact ⟨ret_eq (by have := hT.out; rw [HZ.out H0.out.2 H0.out.1] at this; subst this; rfl), rfl⟩
          · have H0 := hide hz0
            clear hz0
            have hlast := hide (HL.out (by omega) (by omega) (by have := H0.out; omega))
            have hor := HO.out (by omega)
            rw [show c % 128 = c from by omega] at hor
            have HR := hide hor
            clear hor
            by_cases hc0 : c = 0
            · have hcb : (c == 0) = true := by simp [hc0]
              have hkp : ¬ (0 : Int) < (k : Int) := by have := H0.out; omega
              clear hc0
              go_wp2
              go_ret3
              refine ⟨ret_eq ?_, rfl⟩
              have := hT.out
              rw [hlast.out] at this
              subst this
              simp only [tup]
              rw [← HR.out]
              rfl
            · have hcb : (c == 0) = false := by simp; omega
              go_wp2
              all_goals
                go_ret3
                refine ⟨ret_eq ?_, rfl⟩
                have := hT.out
                rw [hlast.out] at this
                subst this
                simp only [tup]
                rw [← HR.out]
                rfl
    · go_wp2
      go_ret3
      have := hT.out
      rw [tk_end zs k N (by have := hs.out.1; omega)] at this
      subst this
      exact ⟨rfl, rfl⟩
theorem reftake_any (s : ByteArray) (zs : List Int) (w : World) (hm : s.size ≤ 9223372036854775807) (hs : Sz s zs) (hz : ∀ i, 0 ≤ zs.getD i 0 ∧ zs.getD i 0 < 256) :
    Calls Try.prog 45 #[.string s] w fun e w' => e = .returned (tup (tk zs 0 0)) ∧ w' = w :=
  reftake_core s zs w _ (hide rfl) hm (hide hs) (hide hz)
end Go.Proofs.Ytgopcaemgcnapaa.Clep
