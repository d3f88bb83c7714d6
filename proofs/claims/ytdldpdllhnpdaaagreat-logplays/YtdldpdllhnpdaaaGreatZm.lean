/- What the own Num and Eight of the document do when called: for any number. No conditions. -/
import Derived.Test.YtdldpdllhnpdaaaGreatZg
import Derived.Test.YtdldpdllhnpdaaaGreatZk
import Derived.Test.YtdldpdllhnpdaaaGreatZh
import Derived.Deep.RegionHeldLaw
namespace Go.Proofs.YtdldpdllhnpdaaaGreat.Clep
open Go.RowKit
set_option linter.unusedVariables false

set_option maxRecDepth 100000 in
set_option maxHeartbeats 800000 in
theorem refnum_any (w : World) (n : Int) (h0 : 0 ≤ n) (h1 : n ≤ 18446744073709551615) :
    Calls Tryz.prog 49 #[.int .u64 n] w fun e w' => e = .returned (.string (strOfNums (pu n))) ∧ Below w.heap.size w w' := by
  obtain ⟨i0, hi, hz0, hz1, hz2⟩ := info_parts info5
  have hfu := hide (u64_fuel n h1)
  have hrg := hide (pu_range n h0 h1)
  obtain ⟨L, hL⟩ : ∃ L, (pu n).length = L := ⟨_, rfl⟩
  have HL := hide hL
  clear hL
  go_enter Tryz.func49, Tryz.ntmps49
  go_wp2
  go_loopw [0, 3] (fun m u wr => ∃ (f : Nat) (N : Int) (ys : List Int), m = .int .u64 N ∧ 0 ≤ N ∧ N ≤ 18446744073709551615 ∧ ys.length + f ≤ 9 ∧ Hid (N < 128 ^ (f + 1)) ∧
      Hid (ys ++ enc f N = pu n) ∧ Hid (Own wr w.heap.size u ys) ∧ Hid (Below w.heap.size w wr)) (fun m _ _ => (intOf m).toNat)
  case atStart => exact ⟨9, n, [], rfl, h0, h1, by simp, hfu, hide rfl, hide (World.ownsRow_nil _ _ _ _), hide (Below.refl _ _)⟩
  case round =>
    obtain ⟨f, N, ys, rfl, hN0, hN1, hf, hfu2, he, hown, hbel⟩ := hrel
    by_cases hb : 127 < N
    · obtain ⟨g, hg1, hg2⟩ := fuel_step f N (by omega) hfu2.out
      have HG := hide hg1
      have HG2 := hide hg2
      have hsz := hide hbel.out.size
      have HOR := hide (or_high N hN0)
      clear hg1 hg2
      go_wp2_with (first
        | (at_builtin; refine wpList_append_own _ rfl _ _ 40 rfl w.heap.size 5 i0 (.int .u8 0) 1 1 Tryz.underlying40 hi hz0 hz1 hz2 rfl (by decide) _ _ _ rfl (hown.out.alloc _) ⟨wr.heap.size, 0, none⟩ 1 1 [.int .u8 (bits BinOp.or IntKind.u8 (IntKind.u8.wrap N) 128)] rfl rfl ?c1 ?c2 ?c3 ?c4 ?c5 ?_)
        | fail)
      case c1 => exact cell_one_new _ _ _
      case c2 => intro u hu; simp at hu; subst hu; rfl
      case c3 => unfold maxLen; omega
      case c4 => omega
      case c5 => have := hsz.out; simp; omega
      intro v' w1 hown' hgrow _
      have HW := hide hown'
      have HW2 := hide hgrow
      clear hown' hgrow
      go_wp2
      go_roundw
      case rel =>
        have hw := HW.out
        rw [HOR.out] at hw
        exact ⟨g, _, ys ++ [N % 128 + 128], rfl, by omega, by omega, by have := HG.out; simp; omega, HG2, hide (by rw [← he.out, HG.out, enc_big g N (by omega)]; simp), hide (own_snoc hw), hide (below_step hbel.out (by have := hsz.out; omega) hown.out HW2.out)⟩
      case measure => simp [intOf]; omega
    · have hsz := hide hbel.out.size
      go_wp2_with (first
        | (at_builtin; refine wpList_append_own _ rfl _ _ 40 rfl w.heap.size 5 i0 (.int .u8 0) 1 1 Tryz.underlying40 hi hz0 hz1 hz2 rfl (by decide) _ _ _ rfl (hown.out.alloc _) ⟨wr.heap.size, 0, none⟩ 1 1 [.int .u8 N] rfl rfl ?e1 ?e2 ?e3 ?e4 ?e5 ?_)
        | fail)
      case e2 => rfl
      case e3 => unfold maxLen; omega
      case e4 => omega
      case e5 => have := hsz.out; simp; omega
      intro v' w1 hown' hgrow _
      have hO : Own w1 w.heap.size v' (pu n) := by
        rw [← he.out, enc_small f N (by omega)]
        exact own_snoc hown'
      have HW2 := hide (below_step hbel.out (by have := hsz.out; omega) hown.out hgrow)
      obtain ⟨ao, cap, hv, hcv⟩ := own_conv hO hrg.out L HL.out
      have hc := hcv.out _ (Below.refl _ _)
      rw [hv]
      clear hown' hgrow hO hv hcv
      go_wp2
      go_ret
      exact ⟨rfl, HW2.out⟩
end Go.Proofs.YtdldpdllhnpdaaaGreat.Clep

/- What the document's own Key does when called: for any item. No conditions. -/
namespace Go.Proofs.YtdldpdllhnpdaaaGreat.Clep
open Go.RowKit
set_option linter.unusedVariables false
set_option maxRecDepth 10000

/-- All that was there in W is kept. -/
def Fro (W W' : World) : Prop := Below W.heap.size W W'
end Go.Proofs.YtdldpdllhnpdaaaGreat.Clep

/- What the own Take and Sign of the document do when called: for any text, any whole number. No conditions. -/
namespace Go.Proofs.YtdldpdllhnpdaaaGreat.Clep
open Go.RowKit
set_option linter.unusedVariables false
set_option maxRecDepth 10000

theorem or_shift2 (N c : Int) (k : Nat) (hk : k ≤ 9) (hN : 0 ≤ N ∧ N < 2 ^ (7 * k)) (h0 : 0 ≤ c) (hc : c < 256) (h9 : k = 9 → c ≤ 1) :
    bits BinOp.or IntKind.u64 N (IntKind.u64.wrap (bits BinOp.and IntKind.u64 c 127 * 2 ^ (7 * k))) = N + (c % 128) * 2 ^ (7 * k) := by
  have e := or_shift N c k hk hN h0 hc h9
  rw [← e]
  obtain ⟨C, rfl⟩ := Int.eq_ofNat_of_zero_le h0
  rw [show (127 : Int) = ((127 : Nat) : Int) from rfl, show (128 : Int) = ((128 : Nat) : Int) from rfl, u64_and_nat C 127 (by omega) (by omega), nat_mask7,
    u8_andNot_nat C 128 (by omega) (by omega), show 255 - 128 = 127 from rfl, nat_mask7, IntKind.wrap_u64 ((C % 128 : Nat) : Int),
    show ((C % 128 : Nat) : Int) % 18446744073709551616 = ((C % 128 : Nat) : Int) from by omega]
theorem refsign_any (n : Int) (w : World) (h0 : -9223372036854775808 ≤ n) (h1 : n ≤ 9223372036854775807) :
    Calls Tryz.prog 50 #[.int .i64 n] w fun e w' => e = .returned (.int .u64 (sgn n)) ∧ w' = w := by
  by_cases hn : n < 0
  · have hs := hide (show sgn n = -2 * n - 1 by unfold sgn; rw [if_pos hn])
    go_enter Tryz.func50, Tryz.ntmps50
    go_wp2
    go_ret
    exact ⟨ret_eq (congrArg (Value.int IntKind.u64) (by rw [hs.out]; omega)), rfl⟩
  · have hs := hide (show sgn n = 2 * n by unfold sgn; rw [if_neg hn])
    go_enter Tryz.func50, Tryz.ntmps50
    go_wp2
    go_ret
    exact ⟨ret_eq (congrArg (Value.int IntKind.u64) (by rw [hs.out]; omega)), rfl⟩

end Go.Proofs.YtdldpdllhnpdaaaGreat.Clep
