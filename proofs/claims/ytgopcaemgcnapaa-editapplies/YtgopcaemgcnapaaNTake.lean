/- What num.Take, num.Sign and num.Unsign do when called: for any bytes, any whole number. No conditions. -/
import Derived.Test.YtgopcaemgcnapaaNNum
namespace Go.Proofs.Ytgopcaemgcnapaa.Clep
open Go.RowKit
set_option linter.unusedVariables false
set_option maxRecDepth 10000

def tup (r : Int × Int × Int) : Value := .tuple #[.int .u64 r.1, .int .i64 r.2.1, .int .i64 r.2.2]
set_option maxHeartbeats 800000 in
theorem take_core (ao : Option Addr) (len cap : Nat) (zs : List Int) (w : World) (r : Int × Int × Int) (hr : Hid (tk zs 0 0 = r)) (hm : len ≤ 9223372036854775807) (hl : Hid (zs.length = len))
    (hz : Hid (∀ i, 0 ≤ zs.getD i 0 ∧ zs.getD i 0 < 256))
    (hc : Hid (0 < len → ∃ b off, ao = some ⟨b, off, none⟩ ∧ ∀ i, i < len → w.cell? ⟨b, off + i, none⟩ = some (.int .u8 (zs.getD i 0)))) :
    Calls Try.prog 64 #[.slice ao len cap] w fun e w' => e = .returned (tup r) ∧ w' = w := by
  go_enter Try.func64, Try.ntmps64
  go_wp2
  go_loop [2, 9] (fun n i => ∃ k : Nat, ∃ N : Int, k ≤ len ∧ k ≤ 9 ∧ i = .int .i64 k ∧ n = .int .u64 N ∧ Hid (tk (zs.drop k) k N = r) ∧ Hid (0 ≤ N ∧ N < 2 ^ (7 * k))) (fun _ i => len - (intOf i).toNat)
  case atStart => exact ⟨0, 0, Nat.zero_le _, by omega, rfl, rfl, hide (by simpa using hr.out), hide (by simp)⟩
  case round =>
    obtain ⟨k, N, hk, hk9, rfl, rfl, hT, hN⟩ := hrel
    by_cases hlt : k < len
    · obtain ⟨b, off, rfl, hcc⟩ := hc.out (by omega)
      have hck := hcc k hlt
      have hzk := hz.out k
      have hkl : Hid (k < zs.length) := hide (by rw [hl.out]; exact hlt)
      have ha := and_high (zs.getD k 0) hzk.1 hzk.2
      have HO := hide (fun h9 => or_shift N (zs.getD k 0) k hk9 hN.out hzk.1 hzk.2 h9)
      have HX := hide (fun h9 hc => tk_over zs k N hkl.out h9 hc)
      have HM := hide (fun h9 hc => tk_more zs k N hkl.out h9 hc)
      have HZ := hide (fun h0 hc => tk_zero zs k N hkl.out h0 hc)
      have HL := hide (fun h9 hc h0 => tk_last zs k N hkl.out h9 hc h0)
      have HS := hide (fun h0 hc => shift_lt N (zs.getD k 0) k hN.out h0 hc)
      clear hcc
      generalize zs.getD k 0 = c at *
      by_cases h9 : k = 9
      · have h9b : ((k : Int) == 9) = true := by simp; omega
        have H9 := hide h9
        clear h9
        by_cases hc1 : 1 < c
        · go_wp2
          go_ret3
          exact ⟨ret_eq (by have := hT.out; rw [HX.out H9.out hc1] at this; subst this; rfl), rfl⟩
        · have hcn : ¬ 128 ≤ c := by omega
          rw [decide_eq_false hcn] at ha
          by_cases hc0 : c = 0
          · have hcb : (c == 0) = true := by simp [hc0]
            have H0 := hide hc0
            have hkp : (0 : Int) < (k : Int) := by have := H9.out; omega
            clear hc0
            go_wp2
            go_ret3
            exact ⟨ret_eq (by have := hT.out; rw [HZ.out (by have := H9.out; omega) H0.out] at this; subst this; rfl), rfl⟩
          · have hcb : (c == 0) = false := by simp; omega
            go_wp2
            go_ret3
            refine ⟨ret_eq ?_, rfl⟩
            have := hT.out
            rw [HL.out (by omega) (by omega) (by omega)] at this
            subst this
            have e := HO.out (by omega)
            rw [show c % 128 = c from by omega] at e
            simp only [tup]
            rw [← e]
            rfl
      · have hk9b : ((k : Int) == 9) = false := by simp; omega
        by_cases hc1 : 128 ≤ c
        · rw [decide_eq_true hc1] at ha
          go_wp2
          go_round
          case rel =>
            have e := HO.out (by omega)
            rw [show c % 128 = c - 128 from by omega] at e
            exact ⟨k + 1, _, by omega, by omega, by go_num, rfl, hide (by rw [e, ← HM.out (by omega) hc1]; exact hT.out), hide (by rw [e]; exact HS.out hc1 (by omega))⟩
          case measure => simp [intOf]; omega
        · rw [decide_eq_false hc1] at ha
          by_cases hz0 : c = 0 ∧ 0 < k
          · have hcb : (c == 0) = true := by simp [hz0.1]
            have hkp : (0 : Int) < (k : Int) := by omega
            have H0 := hide hz0
            clear hz0
            go_wp2
            go_ret3
            exact ⟨ret_eq (by have := hT.out; rw [HZ.out H0.out.2 H0.out.1] at this; subst this; rfl), rfl⟩
          · have H0 := hide hz0
            clear hz0
            have hlast := hide (HL.out (by omega) (by omega) (by have := H0.out; omega))
            have hor := HO.out (by omega)
            rw [show c % 128 = c from by omega] at hor
            have HR := hide hor
            clear hor
            by_cases hc0 : c = 0
            · have hcb : (c == 0) = true := by simp [hc0]
              have hkp : ¬ (0 : Int) < (k : Int) := by have := H0.out; omega
              clear hc0
              go_wp2
              go_ret3
              refine ⟨ret_eq ?_, rfl⟩
              have := hT.out
              rw [hlast.out] at this
              subst this
              simp only [tup]
              rw [← HR.out]
              rfl
            · have hcb : (c == 0) = false := by simp; omega
              go_wp2
              go_ret3
              refine ⟨ret_eq ?_, rfl⟩
              have := hT.out
              rw [hlast.out] at this
              subst this
              simp only [tup]
              rw [← HR.out]
              rfl
    · go_wp2
      go_ret3
      have := hT.out
      rw [tk_end zs k N (by have := hl.out; omega)] at this
      subst this
      exact ⟨rfl, rfl⟩
theorem take_any (ao : Option Addr) (len cap : Nat) (zs : List Int) (w : World) (hm : len ≤ 9223372036854775807) (h : Bs w ao len cap zs) :
    Calls Try.prog 64 #[.slice ao len cap] w fun e w' => e = .returned (tup (tk zs 0 0)) ∧ w' = w :=
  take_core ao len cap zs w _ (hide rfl) hm (hide h.1) (hide h.2.2.1) (hide h.2.2.2)
theorem take_none (ao : Option Addr) (cap : Nat) (w : World) : Calls Try.prog 64 #[.slice ao 0 cap] w fun e w' => e = .returned (tup (0, 0, 4)) ∧ w' = w :=
  take_core ao 0 cap [] w _ (hide rfl) (by omega) (hide rfl) (hide (range_of (by simp))) (hide fun h => by omega)

end Go.Proofs.Ytgopcaemgcnapaa.Clep
