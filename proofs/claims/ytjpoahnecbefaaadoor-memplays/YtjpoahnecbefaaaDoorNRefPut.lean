/- What the own Num and Eight of the document do when called: for any number. No conditions. -/
import Derived.Test.YtjpoahnecbefaaaDoorNPut
namespace Go.Proofs.YtjpoahnecbefaaaDoor.Clep
open Go.RowKit
set_option linter.unusedVariables false

set_option maxRecDepth 100000 in
set_option maxHeartbeats 800000 in
theorem refeight_any (w : World) (n : Int) (h0 : 0 ≤ n) (h1 : n ≤ 18446744073709551615) :
    Calls Tryd.prog 54 #[.int .u64 n] w fun e w' => e = .returned (.string (strOfNums (e8 n 8))) ∧ Below w.heap.size w w' := by
  obtain ⟨i0, hi, hz0, hz1, hz2⟩ := info_parts info5
  go_enter Tryd.func54, Tryd.ntmps54
  go_wp2_with (first
    | (at_make; refine wpList_make_full _ rfl _ _ 70 rfl w.heap.size 5 i0 (.int .u8 0) 1 Tryd.underlying70 hi hz0 hz1 .i64 .i64 8 8 8 rfl rfl rfl rfl ?c1 ?c2 ?c3 ?_)
    | fail)
  case c1 => rw [hz2]; omega
  case c2 => unfold maxLen; omega
  case c3 => exact Nat.le_refl _
  intro w1 hown hg
  rw [zeros8] at hown
  have HB := hide ((Below.refl _ w).grown hg (Nat.le_refl _) (fun k hk => by cases hk))
  have HO := hide hown
  have HG := hide hg
  clear hown hg
  go_wp2_with fail
  go_loopw [4] (fun i wr => ∃ k : Nat, k ≤ 8 ∧ i = .int .i64 k ∧ Hid (wr.ownsRow w.heap.size 5 1 (.slice (some ⟨w.heap.size, 0, none⟩) 8 8) 8 (bv (e8 n k ++ List.replicate (8 - k) 0))) ∧ Hid (Below w.heap.size w wr)) (fun i _ => 8 - (intOf i).toNat)
  case atStart => exact ⟨0, by omega, rfl, hide (by simpa [e8] using HO.out), HB⟩
  case round =>
    obtain ⟨k, hk, rfl, hown, hbel⟩ := hrel
    by_cases hlt : k < 8
    · have hcl : ∃ v, wr.cell? ⟨w.heap.size, k, none⟩ = some v := by
        rw [hown.out.cellAt k (by omega)]
        exact ⟨_, List.getElem?_eq_getElem (by rw [bv_len]; simp [e8_len]; omega)⟩
      obtain ⟨v0, hcl⟩ := hcl
      have hfr := hown.out.frozenAt k
      have HS := hide (hown.out.stored k (.int .u8 (n / 2 ^ (56 - 8 * k) % 256)))
      have HE := hide (show n / 2 ^ (56 - 8 * k) % 256 = e8b n k by unfold e8b; rw [show 56 - 8 * k = 8 * (7 - k) from by omega])
      go_wp2
      go_roundw
      case rel => exact ⟨k + 1, by omega, by go_num, hide (by have := HS.out.1; rw [HE.out, set_zero n k hlt] at this; rw [HE.out]; exact this), hide (hbel.out.grown HS.out.2 hbel.out.size (fun j hj => by cases hj; exact Nat.le_refl _))⟩
      case measure => simp [intOf]; omega
    · have h8 : k = 8 := by omega
      subst h8
      have hO : Own wr w.heap.size (.slice (some ⟨w.heap.size, 0, none⟩) 8 8) (e8 n 8) := by
        unfold Own; rw [e8_len]; simpa using hown.out
      obtain ⟨ao, cap, hv, hcv⟩ := own_conv hO (e8_range n) 8 (e8_len n 8)
      cases hv
      have hc := hcv.out _ (Below.refl _ _)
      clear hO hcv
      go_wp2
      go_ret
      exact ⟨rfl, hbel.out⟩

end Go.Proofs.YtjpoahnecbefaaaDoor.Clep
