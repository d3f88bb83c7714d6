/- What num.room, num.grow and num.Put do when called: for any bytes of at most 2^46, any number. -/
import Derived.Test.YtgopcaemgcnapaaNTake
namespace Go.Proofs.Ytgopcaemgcnapaa.Clep
open Go.RowKit
set_option linter.unusedVariables false
set_option maxRecDepth 10000

set_option maxHeartbeats 400000 in
theorem room_any (ao : Option Addr) (len cap : Nat) (zs : List Int) (w : World) (n : Int) (h0 : 0 ≤ n) (h1 : n ≤ 1000000) (hm : len ≤ 70368744177664) (h : Bs w ao len cap zs) :
    Calls Try.prog 69 #[.slice ao len cap, .int .i64 n] w fun e w' => ∃ v, e = .returned v ∧ Own w' w.heap.size v zs ∧ Below w.heap.size w w' := by
  obtain ⟨i0, hi, hz0, hz1, hz2⟩ := info_parts info5
  have hcs := hide (bs_cells h)
  have hnl := hide h.2.1.2
  have hzl := hide h.1
  clear h
  go_enter Try.func69, Try.ntmps69
  go_wp2_with (first
    | (at_make; refine wpList_make_own _ rfl _ _ 35 rfl w.heap.size 5 i0 (.int .u8 0) 1 Try.underlying35 hi hz0 hz1 .i64 .i64 _ (len + n.toNat) rfl rfl ?c1 ?c2 ?c3 ?c4 ?_)
    | fail)
  case c1 => omega
  case c2 => rw [hz2]; omega
  case c3 => unfold maxLen; omega
  case c4 => exact Nat.le_refl _
  intro w1 hown hg
  have hb1 : Hid (Below w.heap.size w w1) := hide ((Below.refl _ _).grown hg (Nat.le_refl _) (fun k hk => by cases hk))
  have HG := hide hg
  clear hg
  go_wp2_with (first
    | (at_builtin; refine wpList_append_fits_any _ rfl (.tmp 11) (.tmp 12) 35 rfl w.heap.size 5 i0 1 Try.underlying35 hi hz1 w.heap.size 0 (len + n.toNat) [] rfl hown ao len cap (bv zs) rfl ?d1 ?d2 ?d3 ?d4 ?d5 ?_)
    | fail)
  case d1 => rw [bv_len, hzl.out]; omega
  case d2 => exact hnl.out
  case d3 =>
    intro ad had j u hu
    exact HG.out.cell (hcs.out ad had j u hu) (by intro h; cases h)
  case d4 => exact bv_one zs
  case d5 => omega
  intro w2 hown2 hg2
  have hb2 := hide (hb1.out.grown hg2 hb1.out.size (fun k hk => by cases hk; exact Nat.le_refl _))
  have HO := hide hown2
  clear hg2 hown2 hown
  go_wp2
  go_ret
  refine ⟨_, rfl, ?_, hb2.out⟩
  have := HO.out
  unfold Own
  rw [hzl.out]
  first | exact this | simpa using this
set_option maxHeartbeats 400000 in
theorem grow_any (v : Value) (xs : List Int) (B : Nat) (w : World) (n : Int) (h0 : 0 ≤ n) (h1 : n ≤ 18446744073709551615) (hm : xs.length ≤ 100000000000000) (h : Own w B v xs) (hB : B ≤ w.heap.size) :
    Calls Try.prog 68 #[v, .int .u64 n] w fun e w' => ∃ v', e = .returned v' ∧ Own w' B v' (xs ++ pu n) ∧ Below B w w' := by
  obtain ⟨i0, hi, hz0, hz1, hz2⟩ := info_parts info5
  have H := hide h
  have hfu := hide (u64_fuel n h1)
  clear h
  go_enter Try.func68, Try.ntmps68
  go_wp2
  go_loopw [0, 1] (fun u m wr => ∃ (f : Nat) (N : Int) (ys : List Int), m = .int .u64 N ∧ 0 ≤ N ∧ N ≤ 18446744073709551615 ∧ ys.length + f ≤ xs.length + 9 ∧ Hid (N < 128 ^ (f + 1)) ∧
      Hid (ys ++ enc f N = xs ++ pu n) ∧ Hid (Own wr B u ys) ∧ Hid (Below B w wr)) (fun _ m _ => (intOf m).toNat)
  case atStart => exact ⟨9, n, xs, rfl, h0, h1, by omega, hfu, hide rfl, H, hide (Below.refl _ _)⟩
  case round =>
    obtain ⟨f, N, ys, rfl, hN0, hN1, hf, hfu2, he, hown, hbel⟩ := hrel
    by_cases hb : 128 ≤ N
    · obtain ⟨g, hg1, hg2⟩ := fuel_step f N hb hfu2.out
      have HG := hide hg1
      have HG2 := hide hg2
      have hsz := hide hbel.out.size
      have HOR := hide (or_high N hN0)
      clear hg1 hg2
      go_wp2_with (first
        | (at_builtin; refine wpList_append_own _ rfl _ _ 35 rfl B 5 i0 (.int .u8 0) 1 1 Try.underlying35 hi hz0 hz1 hz2 rfl (by decide) _ _ _ rfl (hown.out.alloc _) ⟨wr.heap.size, 0, none⟩ 1 1 [.int .u8 (bits BinOp.or IntKind.u8 (IntKind.u8.wrap N) 128)] rfl rfl ?c1 ?c2 ?c3 ?c4 ?c5 ?_)
        | fail)
      case c1 => exact cell_one_new _ _ _
      case c2 => intro u hu; simp at hu; subst hu; rfl
      case c3 => unfold maxLen; omega
      case c4 => omega
      case c5 => have := hsz.out; simp; omega
      intro v' w1 hown' hgrow _
      have HW := hide hown'
      have HW2 := hide hgrow
      clear hown' hgrow
      go_wp2
      go_roundw
      case rel =>
        have hw := HW.out
        rw [HOR.out] at hw
        exact ⟨g, _, ys ++ [N % 128 + 128], rfl, by omega, by omega, by have := HG.out; simp; omega, HG2, hide (by rw [← he.out, HG.out, enc_big g N hb]; simp), hide (own_snoc hw), hide (below_step hbel.out (by have := hsz.out; omega) hown.out HW2.out)⟩
      case measure => simp [intOf]; omega
    · have hsz := hide hbel.out.size
      go_wp2_with (first
        | (at_builtin; refine wpList_append_own _ rfl _ _ 35 rfl B 5 i0 (.int .u8 0) 1 1 Try.underlying35 hi hz0 hz1 hz2 rfl (by decide) _ _ _ rfl (hown.out.alloc _) ⟨wr.heap.size, 0, none⟩ 1 1 [.int .u8 N] rfl rfl ?e1 ?e2 ?e3 ?e4 ?e5 ?_)
        | fail)
      case e2 => rfl
      case e3 => unfold maxLen; omega
      case e4 => omega
      case e5 => have := hsz.out; simp; omega
      intro v' w1 hown' hgrow _
      have HW := hide hown'
      have HW2 := hide hgrow
      clear hown' hgrow
      go_wp2
      go_ret
      refine ⟨_, rfl, ?_, below_step hbel.out (by have := hsz.out; omega) hown.out HW2.out⟩
      rw [← he.out, enc_small f N (by omega)]
      exact own_snoc HW.out
set_option maxHeartbeats 400000 in
theorem put_any (ao : Option Addr) (len cap : Nat) (zs : List Int) (w : World) (n : Int) (h0 : 0 ≤ n) (h1 : n ≤ 18446744073709551615) (hm : len ≤ 70368744177664) (h : Bs w ao len cap zs) :
    Calls Try.prog 55 #[.slice ao len cap, .int .u64 n] w fun e w' => ∃ v, e = .returned v ∧ Own w' w.heap.size v (zs ++ pu n) ∧ Below w.heap.size w w' := by
  have hzl := hide h.1
  have H := hide h
  clear h
  go_enter Try.func55, Try.ntmps55
  go_wp2_with fail
  refine (room_any ao len cap zs w 10 (by omega) (by omega) hm H.out).mono ?_
  rintro e w1 ⟨v, rfl, ho, hb⟩
  have HO := hide ho
  have HB := hide hb
  clear ho hb
  go_wp2_with fail
  refine (grow_any v zs w.heap.size w1 n h0 h1 (by have := hzl.out; omega) HO.out HB.out.size).mono ?_
  rintro e w2 ⟨v', rfl, ho2, hb2⟩
  have HO2 := hide ho2
  have HB2 := hide hb2
  clear ho2 hb2
  go_wp2
  go_ret
  exact ⟨_, rfl, HO2.out, HB.out.trans HB2.out⟩

end Go.Proofs.Ytgopcaemgcnapaa.Clep
