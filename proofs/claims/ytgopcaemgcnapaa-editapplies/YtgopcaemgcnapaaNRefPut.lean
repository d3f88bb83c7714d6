/- What the own Num and Eight of the document do when called: for any number. No conditions. -/
import Derived.Test.YtgopcaemgcnapaaNPut
namespace Go.Proofs.Ytgopcaemgcnapaa.Clep
open Go.RowKit
set_option linter.unusedVariables false

set_option maxRecDepth 100000 in
set_option maxHeartbeats 800000 in
theorem refnum_any (w : World) (n : Int) (h0 : 0 ≤ n) (h1 : n ≤ 18446744073709551615) :
    Calls Try.prog 38 #[.int .u64 n] w fun e w' => e = .returned (.string (strOfNums (pu n))) ∧ Below w.heap.size w w' := by
  obtain ⟨i0, hi, hz0, hz1, hz2⟩ := info_parts info5
  have hfu := hide (u64_fuel n h1)
  have hrg := hide (pu_range n h0 h1)
  obtain ⟨L, hL⟩ : ∃ L, (pu n).length = L := ⟨_, rfl⟩
  have HL := hide hL
  clear hL
  go_enter Try.func38, Try.ntmps38
  go_wp2
  go_loopw [0, 3] (fun m u wr => ∃ (f : Nat) (N : Int) (ys : List Int), m = .int .u64 N ∧ 0 ≤ N ∧ N ≤ 18446744073709551615 ∧ ys.length + f ≤ 9 ∧ Hid (N < 128 ^ (f + 1)) ∧
      Hid (ys ++ enc f N = pu n) ∧ Hid (Own wr w.heap.size u ys) ∧ Hid (Below w.heap.size w wr)) (fun m _ _ => (intOf m).toNat)
  case atStart => exact ⟨9, n, [], rfl, h0, h1, by simp, hfu, hide rfl, hide (World.ownsRow_nil _ _ _ _), hide (Below.refl _ _)⟩
  case round =>
    obtain ⟨f, N, ys, rfl, hN0, hN1, hf, hfu2, he, hown, hbel⟩ := hrel
    by_cases hb : 127 < N
    · obtain ⟨g, hg1, hg2⟩ := fuel_step f N (by omega) hfu2.out
      have HG := hide hg1
      have HG2 := hide hg2
      have hsz := hide hbel.out.size
      have HOR := hide (or_high N hN0)
      clear hg1 hg2
      go_wp2_with (first
        | (at_builtin; refine wpList_append_own _ rfl _ _ 35 rfl w.heap.size 5 i0 (.int .u8 0) 1 1 Try.underlying35 hi hz0 hz1 hz2 rfl (by decide) _ _ _ rfl (hown.out.alloc _) ⟨wr.heap.size, 0, none⟩ 1 1 [.int .u8 (bits BinOp.or IntKind.u8 (IntKind.u8.wrap N) 128)] rfl rfl ?c1 ?c2 ?c3 ?c4 ?c5 ?_)
        | fail)
      case c1 => exact cell_one_new _ _ _
      case c2 => intro u hu; simp at hu; subst hu; rfl
      case c3 => unfold maxLen; omega
      case c4 => omega
      case c5 => have := hsz.out; simp; omega
      intro v' w1 hown' hgrow _
      have HW := hide hown'
      have HW2 := hide hgrow
      clear hown' hgrow
      go_wp2
      go_roundw
      case rel =>
        have hw := HW.out
        rw [HOR.out] at hw
        exact ⟨g, _, ys ++ [N % 128 + 128], rfl, by omega, by omega, by have := HG.out; simp; omega, HG2, hide (by rw [← he.out, HG.out, enc_big g N (by omega)]; simp), hide (own_snoc hw), hide (below_step hbel.out (by have := hsz.out; omega) hown.out HW2.out)⟩
      case measure => simp [intOf]; omega
    · have hsz := hide hbel.out.size
      go_wp2_with (first
        | (at_builtin; refine wpList_append_own _ rfl _ _ 35 rfl w.heap.size 5 i0 (.int .u8 0) 1 1 Try.underlying35 hi hz0 hz1 hz2 rfl (by decide) _ _ _ rfl (hown.out.alloc _) ⟨wr.heap.size, 0, none⟩ 1 1 [.int .u8 N] rfl rfl ?e1 ?e2 ?e3 ?e4 ?e5 ?_)
        | fail)
      case e2 => rfl
      case e3 => unfold maxLen; omega
      case e4 => omega
      case e5 => have := hsz.out; simp; omega
      intro v' w1 hown' hgrow _
      have hO : Own w1 w.heap.size v' (pu n) := by
        rw [← he.out, enc_small f N (by omega)]
        exact own_snoc hown'
      have HW2 := hide (below_step hbel.out (by have := hsz.out; omega) hown.out hgrow)
      obtain ⟨ao, cap, hv, hcv⟩ := own_conv hO hrg.out L HL.out
      have hc := hcv.out _ (Below.refl _ _)
      rw [hv]
      clear hown' hgrow hO hv hcv
      go_wp2
      go_ret
      exact ⟨rfl, HW2.out⟩
end Go.Proofs.Ytgopcaemgcnapaa.Clep
