/- What the own Num and Eight of the document do when called: for any number. No conditions. -/
import Derived.Test.YtodhljiboakjnaaGreatZh
import Derived.Test.YtodhljiboakjnaaGreatZp
import Derived.Test.YtodhljiboakjnaaGreatZi
import Derived.Deep.RegionHeldLaw
namespace Go.Proofs.YtodhljiboakjnaaGreat.Clep
open Go.RowKit
set_option linter.unusedVariables false

set_option maxRecDepth 100000 in
set_option maxHeartbeats 800000 in
theorem refnum_any (w : World) (n : Int) (h0 : 0 ≤ n) (h1 : n ≤ 18446744073709551615) :
    Calls Tryz.prog 33 #[.int .u64 n] w fun e w' => e = .returned (.string (strOfNums (pu n))) ∧ Below w.heap.size w w' := by
  obtain ⟨i0, hi, hz0, hz1, hz2⟩ := info_parts info5
  have hfu := hide (u64_fuel n h1)
  have hrg := hide (pu_range n h0 h1)
  obtain ⟨L, hL⟩ : ∃ L, (pu n).length = L := ⟨_, rfl⟩
  have HL := hide hL
  clear hL
  go_enter Tryz.func33, Tryz.ntmps33
  go_wp2
  go_loopw [0, 3] (fun m u wr => ∃ (f : Nat) (N : Int) (ys : List Int), m = .int .u64 N ∧ 0 ≤ N ∧ N ≤ 18446744073709551615 ∧ ys.length + f ≤ 9 ∧ Hid (N < 128 ^ (f + 1)) ∧
      Hid (ys ++ enc f N = pu n) ∧ Hid (Own wr w.heap.size u ys) ∧ Hid (Below w.heap.size w wr)) (fun m _ _ => (intOf m).toNat)
  case atStart => exact ⟨9, n, [], rfl, h0, h1, by simp, hfu, hide rfl, hide (World.ownsRow_nil _ _ _ _), hide (Below.refl _ _)⟩
  case round =>
    obtain ⟨f, N, ys, rfl, hN0, hN1, hf, hfu2, he, hown, hbel⟩ := hrel
    by_cases hb : 127 < N
    · obtain ⟨g, hg1, hg2⟩ := fuel_step f N (by omega) hfu2.out
      have HG := hide hg1
      have HG2 := hide hg2
      have hsz := hide hbel.out.size
      have HOR := hide (or_high N hN0)
      clear hg1 hg2
      go_wp2_with (first
        | (at_builtin; refine wpList_append_own _ rfl _ _ 28 rfl w.heap.size 5 i0 (.int .u8 0) 1 1 Tryz.underlying28 hi hz0 hz1 hz2 rfl (by decide) _ _ _ rfl (hown.out.alloc _) ⟨wr.heap.size, 0, none⟩ 1 1 [.int .u8 (bits BinOp.or IntKind.u8 (IntKind.u8.wrap N) 128)] rfl rfl ?c1 ?c2 ?c3 ?c4 ?c5 ?_)
        | fail)
      case c1 => exact cell_one_new _ _ _
      case c2 => intro u hu; simp at hu; subst hu; rfl
      case c3 => unfold maxLen; omega
      case c4 => omega
      case c5 => have := hsz.out; simp; omega
      intro v' w1 hown' hgrow _
      have HW := hide hown'
      have HW2 := hide hgrow
      clear hown' hgrow
      go_wp2
      go_roundw
      case rel =>
        have hw := HW.out
        rw [HOR.out] at hw
        exact ⟨g, _, ys ++ [N % 128 + 128], rfl, by omega, by omega, by have := HG.out; simp; omega, HG2, hide (by rw [← he.out, HG.out, enc_big g N (by omega)]; simp), hide (own_snoc hw), hide (below_step hbel.out (by have := hsz.out; omega) hown.out HW2.out)⟩
      case measure => simp [intOf]; omega
    · have hsz := hide hbel.out.size
      go_wp2_with (first
        | (at_builtin; refine wpList_append_own _ rfl _ _ 28 rfl w.heap.size 5 i0 (.int .u8 0) 1 1 Tryz.underlying28 hi hz0 hz1 hz2 rfl (by decide) _ _ _ rfl (hown.out.alloc _) ⟨wr.heap.size, 0, none⟩ 1 1 [.int .u8 N] rfl rfl ?e1 ?e2 ?e3 ?e4 ?e5 ?_)
        | fail)
      case e2 => rfl
      case e3 => unfold maxLen; omega
      case e4 => omega
      case e5 => have := hsz.out; simp; omega
      intro v' w1 hown' hgrow _
      have hO : Own w1 w.heap.size v' (pu n) := by
        rw [← he.out, enc_small f N (by omega)]
        exact own_snoc hown'
      have HW2 := hide (below_step hbel.out (by have := hsz.out; omega) hown.out hgrow)
      obtain ⟨ao, cap, hv, hcv⟩ := own_conv hO hrg.out L HL.out
      have hc := hcv.out _ (Below.refl _ _)
      rw [hv]
      clear hown' hgrow hO hv hcv
      go_wp2
      go_ret
      exact ⟨rfl, HW2.out⟩
set_option maxRecDepth 100000 in
set_option maxHeartbeats 800000 in
theorem refeight_any (w : World) (n : Int) (h0 : 0 ≤ n) (h1 : n ≤ 18446744073709551615) :
    Calls Tryz.prog 62 #[.int .u64 n] w fun e w' => e = .returned (.string (strOfNums (e8 n 8))) ∧ Below w.heap.size w w' := by
  obtain ⟨i0, hi, hz0, hz1, hz2⟩ := info_parts info5
  go_enter Tryz.func62, Tryz.ntmps62
  go_wp2_with (first
    | (at_make; refine wpList_make_full _ rfl _ _ 28 rfl w.heap.size 5 i0 (.int .u8 0) 1 Tryz.underlying28 hi hz0 hz1 .i64 .i64 8 8 8 rfl rfl rfl rfl ?c1 ?c2 ?c3 ?_)
    | fail)
  case c1 => rw [hz2]; omega
  case c2 => unfold maxLen; omega
  case c3 => exact Nat.le_refl _
  intro w1 hown hg
  rw [zeros8] at hown
  have HB := hide ((Below.refl _ w).grown hg (Nat.le_refl _) (fun k hk => by cases hk))
  have HO := hide hown
  have HG := hide hg
  clear hown hg
  go_wp2_with fail
  go_loopw [4] (fun i wr => ∃ k : Nat, k ≤ 8 ∧ i = .int .i64 k ∧ Hid (wr.ownsRow w.heap.size 5 1 (.slice (some ⟨w.heap.size, 0, none⟩) 8 8) 8 (bv (e8 n k ++ List.replicate (8 - k) 0))) ∧ Hid (Below w.heap.size w wr)) (fun i _ => 8 - (intOf i).toNat)
  case atStart => exact ⟨0, by omega, rfl, hide (by simpa [e8] using HO.out), HB⟩
  case round =>
    obtain ⟨k, hk, rfl, hown, hbel⟩ := hrel
    by_cases hlt : k < 8
    · have hcl : ∃ v, wr.cell? ⟨w.heap.size, k, none⟩ = some v := by
        rw [hown.out.cellAt k (by omega)]
        exact ⟨_, List.getElem?_eq_getElem (by rw [bv_len]; simp [e8_len]; omega)⟩
      obtain ⟨v0, hcl⟩ := hcl
      have hfr := hown.out.frozenAt k
      have HS := hide (hown.out.stored k (.int .u8 (n / 2 ^ (56 - 8 * k) % 256)))
      have HE := hide (show n / 2 ^ (56 - 8 * k) % 256 = e8b n k by unfold e8b; rw [show 56 - 8 * k = 8 * (7 - k) from by omega])
      go_wp2
      go_roundw
      case rel => exact ⟨k + 1, by omega, by go_num, hide (by have := HS.out.1; rw [HE.out, set_zero n k hlt] at this; rw [HE.out]; exact this), hide (hbel.out.grown HS.out.2 hbel.out.size (fun j hj => by cases hj; exact Nat.le_refl _))⟩
      case measure => simp [intOf]; omega
    · have h8 : k = 8 := by omega
      subst h8
      have hO : Own wr w.heap.size (.slice (some ⟨w.heap.size, 0, none⟩) 8 8) (e8 n 8) := by
        unfold Own; rw [e8_len]; simpa using hown.out
      obtain ⟨ao, cap, hv, hcv⟩ := own_conv hO (e8_range n) 8 (e8_len n 8)
      cases hv
      have hc := hcv.out _ (Below.refl _ _)
      clear hO hcv
      go_wp2
      go_ret
      exact ⟨rfl, hbel.out⟩

end Go.Proofs.YtodhljiboakjnaaGreat.Clep

/- What the own Take and Sign of the document do when called: for any text, any whole number. No conditions. -/
namespace Go.Proofs.YtodhljiboakjnaaGreat.Clep
open Go.RowKit
set_option linter.unusedVariables false
set_option maxRecDepth 10000

theorem or_shift2 (N c : Int) (k : Nat) (hk : k ≤ 9) (hN : 0 ≤ N ∧ N < 2 ^ (7 * k)) (h0 : 0 ≤ c) (hc : c < 256) (h9 : k = 9 → c ≤ 1) :
    bits BinOp.or IntKind.u64 N (IntKind.u64.wrap (bits BinOp.and IntKind.u64 c 127 * 2 ^ (7 * k))) = N + (c % 128) * 2 ^ (7 * k) := by
  have e := or_shift N c k hk hN h0 hc h9
  rw [← e]
  obtain ⟨C, rfl⟩ := Int.eq_ofNat_of_zero_le h0
  rw [show (127 : Int) = ((127 : Nat) : Int) from rfl, show (128 : Int) = ((128 : Nat) : Int) from rfl, u64_and_nat C 127 (by omega) (by omega), nat_mask7,
    u8_andNot_nat C 128 (by omega) (by omega), show 255 - 128 = 127 from rfl, nat_mask7, IntKind.wrap_u64 ((C % 128 : Nat) : Int),
    show ((C % 128 : Nat) : Int) % 18446744073709551616 = ((C % 128 : Nat) : Int) from by omega]
theorem refsign_any (n : Int) (w : World) (h0 : -9223372036854775808 ≤ n) (h1 : n ≤ 9223372036854775807) :
    Calls Tryz.prog 60 #[.int .i64 n] w fun e w' => e = .returned (.int .u64 (sgn n)) ∧ w' = w := by
  by_cases hn : n < 0
  · have hs := hide (show sgn n = -2 * n - 1 by unfold sgn; rw [if_pos hn])
    go_enter Tryz.func60, Tryz.ntmps60
    go_wp2
    go_ret
    exact ⟨ret_eq (congrArg (Value.int IntKind.u64) (by rw [hs.out]; omega)), rfl⟩
  · have hs := hide (show sgn n = 2 * n by unfold sgn; rw [if_neg hn])
    go_enter Tryz.func60, Tryz.ntmps60
    go_wp2
    go_ret
    exact ⟨ret_eq (congrArg (Value.int IntKind.u64) (by rw [hs.out]; omega)), rfl⟩

end Go.Proofs.YtodhljiboakjnaaGreat.Clep

/- What the document's own Key does when called: for any item. No conditions. -/
namespace Go.Proofs.YtodhljiboakjnaaGreat.Clep
open Go.RowKit
set_option linter.unusedVariables false
set_option maxRecDepth 10000

/-- All that was there in W is kept. -/
def Fro (W W' : World) : Prop := Below W.heap.size W W'
set_option maxHeartbeats 1000000 in
theorem refkey_any (S K T V X : Int) (w : World) (hT : 0 ≤ T ∧ T ≤ 18446744073709551615) :
    Calls Tryz.prog 38 #[.agg #[.int .i64 S, .int .i64 K, .int .u64 T, .int .u64 V, .int .i64 X]] w fun e w' => e = .returned (.string (strOfNums ([S % 256, K % 256] ++ e8 T 8))) ∧ Below w.heap.size w w' := by
  have c0 : Hid (∀ w1 W : World, Below w1.heap.size w1 W → Calls Tryz.prog 62 #[.int .u64 T] W fun e w' => e = .returned (.string (strOfNums (e8 T 8))) ∧ Below w1.heap.size w1 w' ∧ Fro W w') := hide fun w1 W hW =>
    (refeight_any W T hT.1 hT.2).mono fun e w' h => ⟨h.1, hW.trans (h.2.mono hW.size), h.2⟩
  have hcv : ∀ W W' : World, Fro (W.alloc (.cells #[.int .u8 (IntKind.u8.wrap S), .int .u8 (IntKind.u8.wrap K)] 5)).drew W' → (convert 28 9 (.slice (some ⟨W.heap.size, 0, none⟩) 2 2)).run Tryz.prog W' = .ok (.string (strOfNums [S % 256, K % 256])) W' := fun W W' h => by
    rw [IntKind.wrap_u8', IntKind.wrap_u8'] at h
    have hB : Below (W.alloc (.cells #[.int .u8 (S % 256), .int .u8 (K % 256)] 5)).heap.size (W.alloc (.cells #[.int .u8 (S % 256), .int .u8 (K % 256)] 5)) W' := (Below.refl _ _).drew.trans h
    exact conv_bs ((bs_new2 W (S % 256) (K % 256) (by omega) (by omega)).below hB (Nat.le_refl _))
  have hcv0 : ∀ W : World, (convert 28 9 (.slice (some ⟨W.heap.size, 0, none⟩) 2 2)).run Tryz.prog (W.alloc (.cells #[.int .u8 (IntKind.u8.wrap S), .int .u8 (IntKind.u8.wrap K)] 5)).drew = .ok (.string (strOfNums [S % 256, K % 256])) (W.alloc (.cells #[.int .u8 (IntKind.u8.wrap S), .int .u8 (IntKind.u8.wrap K)] 5)).drew := fun W => hcv W _ (Below.refl _ _)
  have hcv1 : ∀ W : World, (convert 28 9 (.slice (some ⟨W.heap.size, 0, none⟩) 2 2)).run Tryz.prog (W.alloc (.cells #[.int .u8 (IntKind.u8.wrap S), .int .u8 (IntKind.u8.wrap K)] 5)) = .ok (.string (strOfNums [S % 256, K % 256])) (W.alloc (.cells #[.int .u8 (IntKind.u8.wrap S), .int .u8 (IntKind.u8.wrap K)] 5)) := fun W => by
    rw [IntKind.wrap_u8', IntKind.wrap_u8']
    exact conv_bs (bs_new2 W (S % 256) (K % 256) (by omega) (by omega))
  have hadd : ∀ W : World, (Op.stringOp .add (strOfNums [S % 256, K % 256]) (strOfNums (e8 T 8))).run Tryz.prog W = .ok (.string (strOfNums ([S % 256, K % 256] ++ e8 T 8))) W := fun W => by
    rw [← str_app]
    exact run_string_add_sum W _ _ (by rw [str_size, str_size, e8_len]; simp)
  have h1 : (strOfNums [S % 256, K % 256]).size = 2 := by rw [str_size]; rfl
  have h2 : (strOfNums (e8 T 8)).size = 8 := by rw [str_size, e8_len]
  have V1 := hide (vi_new w S K T V X)
  have B1 := hide ((Below.refl _ w).alloc (Nat.le_refl _) (Obj.cells #[Value.int IntKind.i64 S, Value.int IntKind.i64 K, Value.int IntKind.u64 T, Value.int IntKind.u64 V, Value.int IntKind.i64 X] 25))
  generalize strOfNums ([S % 256, K % 256] ++ e8 T 8) = SF at *
  generalize strOfNums (e8 T 8) = SE at *
  generalize strOfNums [S % 256, K % 256] = SH at *
  go_enter Tryz.func38, Tryz.ntmps38
  go_wp2_with fail
  generalize w.alloc (Obj.cells #[Value.int IntKind.i64 S, Value.int IntKind.i64 K, Value.int IntKind.u64 T, Value.int IntKind.u64 V, Value.int IntKind.i64 X] 25) = w1 at *
  have q := V1.out
  unfold Vi at q
  obtain ⟨q0, q1, q2, q3, q4⟩ := q
  have hb0 : Below w1.heap.size w1 w1 := Below.refl _ _
  have HK : Hid (∀ W, Below w1.heap.size w1 W → W.cell? ⟨w.heap.size, 0, none⟩ = some (.int .i64 S) ∧ W.cell? ⟨w.heap.size, 0 + 1, none⟩ = some (.int .i64 K) ∧ W.cell? ⟨w.heap.size, 0 + 2, none⟩ = some (.int .u64 T)) := hide fun W hW => by
    have := V1.out.keep hW
    exact ⟨this.1, this.2.1, this.2.2.1⟩
  simp only [Nat.zero_add] at HK q1 q2
  have hS2 : Hid (∀ W, Below w1.heap.size w1 W →
      (Below w1.heap.size w1 (W.alloc (.cells #[.int .u8 (IntKind.u8.wrap S), .int .u8 (IntKind.u8.wrap K)] 5)).drew ∧ (W.alloc (.cells #[.int .u8 (IntKind.u8.wrap S), .int .u8 (IntKind.u8.wrap K)] 5)).drew.cell? ⟨w.heap.size, 0, none⟩ = some (.int .i64 S) ∧ (W.alloc (.cells #[.int .u8 (IntKind.u8.wrap S), .int .u8 (IntKind.u8.wrap K)] 5)).drew.cell? ⟨w.heap.size, 1, none⟩ = some (.int .i64 K) ∧ (W.alloc (.cells #[.int .u8 (IntKind.u8.wrap S), .int .u8 (IntKind.u8.wrap K)] 5)).drew.cell? ⟨w.heap.size, 2, none⟩ = some (.int .u64 T))) := hide fun W h =>
    ⟨(h.alloc h.size _).drew, HK.out _ (h.alloc h.size _).drew⟩
  have hS3 : Hid (∀ W, Below w1.heap.size w1 W →
      (Below w1.heap.size w1 (W.alloc (.cells #[.int .u8 (IntKind.u8.wrap S), .int .u8 (IntKind.u8.wrap K)] 5)) ∧ (W.alloc (.cells #[.int .u8 (IntKind.u8.wrap S), .int .u8 (IntKind.u8.wrap K)] 5)).cell? ⟨w.heap.size, 0, none⟩ = some (.int .i64 S) ∧ (W.alloc (.cells #[.int .u8 (IntKind.u8.wrap S), .int .u8 (IntKind.u8.wrap K)] 5)).cell? ⟨w.heap.size, 1, none⟩ = some (.int .i64 K) ∧ (W.alloc (.cells #[.int .u8 (IntKind.u8.wrap S), .int .u8 (IntKind.u8.wrap K)] 5)).cell? ⟨w.heap.size, 2, none⟩ = some (.int .u64 T))) := hide fun W h =>
    ⟨(h.alloc h.size _), HK.out _ (h.alloc h.size _)⟩
  go_region_held_law (fun W => Below w1.heap.size w1 W ∧ W.cell? ⟨w.heap.size, 0, none⟩ = some (.int .i64 S) ∧ W.cell? ⟨w.heap.size, 1, none⟩ = some (.int .i64 K) ∧ W.cell? ⟨w.heap.size, 2, none⟩ = some (.int .u64 T))
    (first | exact ⟨by assumption, HK.out _ (by assumption)⟩ | exact hS2.out _ (by assumption) | exact hS3.out _ (by assumption) | exact ⟨Below.drew (by assumption), HK.out _ (Below.drew (by assumption))⟩)
    (first
    | (go_at_call 62; refine (c0.out w1 _ (And.left (by assumption))).mono ?_; rintro e w' ⟨rfl, hb, hbs⟩))
  all_goals
    rename_i hX
    have HB := hide (bmore B1.out hX.1)
    clear hX hcv hcv0 hcv1 hS2 hS3 HK c0 q0 q1 q2 q3 q4
    go_wp2
    go_ret
    exact ⟨rfl, HB.out⟩

end Go.Proofs.YtodhljiboakjnaaGreat.Clep
