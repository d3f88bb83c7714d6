/- What the document's own Sum, Seal and Open (package clepsydraref1) do when called: for any text. No conditions but the kinds' own bounds. -/
import Derived.Test.YtgopcaemgcnapaaLits
namespace Go.Proofs.Ytgopcaemgcnapaa.Clep
open Go.RowKit
set_option linter.unusedVariables false
set_option maxRecDepth 10000

theorem u32_odd (C : Nat) (h : C < 4294967296) (h2 : C % 2 = 1) : bits BinOp.xor IntKind.u32 ((C : Int) / 2) 2197175160 = ((stp C : Nat) : Int) := by
  rw [show (2197175160 : Int) = ((2197175160 : Nat) : Int) from rfl, show (C : Int) / 2 = ((C / 2 : Nat) : Int) from by omega, u32_xor_nat _ _ (by omega) (by omega)]
  unfold stp; rw [h2, Nat.one_mul]
theorem u32_even (C : Nat) (h2 : C % 2 = 0) : (C : Int) / 2 = ((stp C : Nat) : Int) := by
  unfold stp; rw [h2, Nat.zero_mul, Nat.xor_zero]; omega
theorem str_app (a b : List Int) : strOfNums a ++ strOfNums b = strOfNums (a ++ b) := by
  apply ByteArray.ext
  simp [strOfNums]

set_option maxHeartbeats 400000 in
theorem refsum_any (s : ByteArray) (zs : List Int) (w : World) (hm : s.size ≤ 9223372036854775807) (hs : Sz s zs) (hr : ByteL zs) :
    Calls Try.prog 72 #[.string s] w fun e w' => e = .returned (.int .u32 (crc zs : Nat)) ∧ w' = w := by
  have hlt := cr_lt zs 4294967295 hr (by decide)
  have hcs := hide (crc_sub zs hr)
  have hz := hide (range_of hr)
  have HS := hide hs
  clear hs hr
  go_enter Try.func72, Try.ntmps72
  go_wp2
  go_loop [3, 4] (fun v i => ∃ k C : Nat, k ≤ s.size ∧ i = .int .i64 k ∧ v = .int .u32 C ∧ C < 4294967296 ∧ Hid (cr (zs.drop k) C = cr zs 4294967295)) (fun _ i => s.size - (intOf i).toNat)
  case atStart => exact ⟨0, 4294967295, by omega, rfl, rfl, by omega, hide (by simp)⟩
  case round =>
    obtain ⟨k, C, hk, rfl, rfl, hC, hT⟩ := hrel
    by_cases hlk : k < s.size
    · have hck := HS.out.2 k hlk
      have hzk := hz.out k
      have hx : Hid (bits BinOp.xor IntKind.u32 (C : Int) (zs.getD k 0) = ((C ^^^ (zs.getD k 0).toNat : Nat) : Int)) := by
        obtain ⟨Z, hZ⟩ := Int.eq_ofNat_of_zero_le hzk.1
        rw [hZ, u32_xor_nat _ _ hC (by omega)]
        exact hide rfl
      have hD : C ^^^ (zs.getD k 0).toNat < 4294967296 := Nat.xor_lt_two_pow (n := 32) hC (by omega)
      have HT := hide (show cr (zs.drop (k + 1)) (it 8 (C ^^^ (zs.getD k 0).toNat)) = cr zs 4294967295 by rw [← hT.out]; exact (cr_at zs k C (by rw [← HS.out.1]; exact hlk)).symm)
      generalize hzz : zs.getD k 0 = z at *
      generalize hDD : C ^^^ z.toNat = D at *
      clear hzz hDD
      go_wp2
      rw [hx.out]
      go_loop [3, 5] (fun v i => ∃ j E : Nat, j ≤ 8 ∧ i = .int .i64 j ∧ v = .int .u32 E ∧ E < 4294967296 ∧ Hid (it (8 - j) E = it 8 D)) (fun _ i => 8 - (intOf i).toNat)
      case atStart => exact ⟨0, D, by omega, rfl, rfl, hD, hide rfl⟩
      case round =>
        obtain ⟨j, E, hj, rfl, rfl, hE, hU⟩ := hrel
        by_cases hj8 : j < 8
        · have hl := u32_low E hE
          have hst := hide (stp_lt E hE)
          have hU' := hide (show it (8 - (j + 1)) (stp E) = it 8 D by rw [← hU.out, show 8 - j = 8 - (j + 1) + 1 from by omega, it])
          by_cases h2 : E % 2 = 1
          · have ho := hide (u32_odd E hE h2)
            rw [h2] at hl
            clear h2
            go_wp2
            go_round
            case rel => exact ⟨j + 1, stp E, by omega, by go_num, by rw [← ho.out], hst.out, hU'⟩
            case measure => simp [intOf]; omega
          · have ho := hide (u32_even E (by omega))
            rw [show E % 2 = 0 from by omega] at hl
            clear h2
            go_wp2
            go_round
            case rel => exact ⟨j + 1, stp E, by omega, by go_num, by rw [← ho.out], hst.out, hU'⟩
            case measure => simp [intOf]; omega
        · have h8 : j = 8 := by omega
          subst h8
          have hU' := hide (show E = it 8 D from hU.out)
          go_wp2
          go_round
          case rel => exact ⟨k + 1, E, by omega, by go_num, rfl, hE, hide (by rw [hU'.out]; exact HT.out)⟩
          case measure => simp [intOf]; omega
    · have h8 : k = s.size := by omega
      subst h8
      have hT' := hide (show C = cr zs 4294967295 from by have := hT.out; rwa [List.drop_eq_nil_of_le (by rw [← HS.out.1]; exact Nat.le_refl _)] at this)
      go_wp2
      go_ret
      exact ⟨by rw [hcs.out, ← hT'.out, ← not_int C hC]; rfl, rfl⟩

theorem refseal_any (s : ByteArray) (zs : List Int) (w : World) (hs : s = strOfNums zs) (hm : zs.length ≤ 70368744177664) (hr : ByteL zs) :
    Calls Try.prog 61 #[.string s] w fun e w' => e = .returned (.string (strOfNums (sl zs))) ∧ Below w.heap.size w w' := by
  have hsz : s.size ≤ 70368744177664 := by rw [hs, str_size]; exact hm
  have HC := hide (refsum_any s zs w (by omega) (by rw [hs]; exact sz_of zs (range_of hr)) hr)
  have hlt := crc_lt zs hr
  have HS := hide (show s ++ strOfNums (le4 (crc zs) 4) = strOfNums (sl zs) by rw [hs, str_app]; rfl)
  have hcv := hide (fun W => conv_bs (bs_newL W (le4 (crc zs) 4) (le4_range _ 4) _ (le4_arr _ hlt) 4 (le4_len _ 4) (0, 0)))
  have hc4 : (strOfNums (le4 (crc zs) 4)).size = 4 := by rw [str_size, le4_len]
  clear hs
  go_enter Try.func61, Try.ntmps61
  go_wp2_with fail
  refine HC.out.mono ?_
  rintro e w1 ⟨rfl, rfl⟩
  have hc := hcv.out w1
  generalize strOfNums (le4 (crc zs) 4) = t at *
  generalize crc zs = C at *
  clear hcv
  go_wp2
  go_ret
  exact ⟨by rw [← HS.out]; rfl, (Below.refl _ _).alloc (Nat.le_refl _) _⟩

theorem str_take (zs : List Int) (n : Nat) (h : n ≤ zs.length) : (strOfNums zs).extract 0 n = strOfNums (zs.take n) := by
  apply ByteArray.ext
  simp [strOfNums, List.map_take]
theorem sl_iff (zs : List Int) (n : Nat) (hr : ByteL zs) (hn : zs.length = n + 4) : sl (zs.take n) = zs ↔ good zs n := by
  have hd : (zs.drop n).length = 4 := by rw [List.length_drop]; omega
  constructor
  · intro h
    have hl : (zs.take n).length = n := by rw [List.length_take]; omega
    have := good_sl (zs.take n) (ByteL.take hr n)
    rwa [h, hl] at this
  · intro h
    unfold good at h
    unfold sl
    have : le4 (crc (zs.take n)) 4 = zs.drop n := nn_inj _ _ (by rw [le4_len, hd]) (le4_range _ _) (ByteL.drop hr n) (by rw [nn_le4 _ (crc_lt _ (ByteL.take hr n)), h])
    rw [this, List.take_append_drop]

theorem refopen_short (s : ByteArray) (w : World) (hm : s.size < 4) :
    Calls Try.prog 65 #[.string s] w fun e w' => e = .returned (.tuple #[.string ⟨#[]⟩, .int .i64 4]) ∧ w' = w := by
  go_enter Try.func65, Try.ntmps65
  go_wp2
  go_ret2
  exact ⟨rfl, rfl⟩
theorem refopen_long (s : ByteArray) (zs : List Int) (w : World) (n : Nat) (hs : s = strOfNums zs) (hn : zs.length = n + 4) (hm : n ≤ 1000000) (hr : ByteL zs) :
    Calls Try.prog 65 #[.string s] w fun e w' => Below w.heap.size w w' ∧
      ((good zs n ∧ e = .returned (.tuple #[.string (strOfNums (zs.take n)), .int .i64 0])) ∨ (¬ good zs n ∧ e = .returned (.tuple #[.string ⟨#[]⟩, .int .i64 5]))) := by
  have hsz : s.size = n + 4 := by rw [hs, str_size, hn]
  have hex : s.extract 0 n = strOfNums (zs.take n) := by rw [hs]; exact str_take zs n (by omega)
  have HC := hide (refseal_any (strOfNums (zs.take n)) (zs.take n) w rfl (by rw [List.length_take]; omega) (ByteL.take hr n))
  have hse := str_eq (sl (zs.take n)) zs (sl_range _ (ByteL.take hr n)) hr
  have hiff := sl_iff zs n hr hn
  rw [← hs] at hse
  clear hs
  generalize strOfNums (zs.take n) = t at *
  generalize strOfNums (sl (zs.take n)) = u at *
  by_cases hg : good zs n
  · rw [decide_eq_true (hiff.2 hg)] at hse
    have HG := hide hg
    clear hg hiff
    go_enter Try.func65, Try.ntmps65
    go_wp2_with fail
    refine HC.out.mono ?_
    rintro e w1 ⟨rfl, hb⟩
    have HB := hide hb
    clear hb HC
    go_wp2
    go_ret2
    exact ⟨HB.out, .inl ⟨HG.out, rfl⟩⟩
  · rw [decide_eq_false (fun h => hg (hiff.1 h))] at hse
    have HG := hide hg
    clear hg hiff
    go_enter Try.func65, Try.ntmps65
    go_wp2_with fail
    refine HC.out.mono ?_
    rintro e w1 ⟨rfl, hb⟩
    have HB := hide hb
    clear hb HC
    go_wp2
    go_ret2
    exact ⟨HB.out, .inr ⟨HG.out, rfl⟩⟩

end Go.Proofs.Ytgopcaemgcnapaa.Clep
