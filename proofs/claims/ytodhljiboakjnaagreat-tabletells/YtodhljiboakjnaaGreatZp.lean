/- What the document's own Sum, Seal and Open (package clepsydraref1) do when called: for any text. No conditions but the kinds' own bounds. -/
import Derived.Test.YtodhljiboakjnaaGreatZl
import Derived.Test.YtodhljiboakjnaaGreatZm
namespace Go.Proofs.YtodhljiboakjnaaGreat.Clep
open Go.RowKit
set_option linter.unusedVariables false
set_option maxRecDepth 10000

theorem u32_odd (C : Nat) (h : C < 4294967296) (h2 : C % 2 = 1) : bits BinOp.xor IntKind.u32 ((C : Int) / 2) 2197175160 = ((stp C : Nat) : Int) := by
  rw [show (2197175160 : Int) = ((2197175160 : Nat) : Int) from rfl, show (C : Int) / 2 = ((C / 2 : Nat) : Int) from by omega, u32_xor_nat _ _ (by omega) (by omega)]
  unfold stp; rw [h2, Nat.one_mul]
theorem u32_even (C : Nat) (h2 : C % 2 = 0) : (C : Int) / 2 = ((stp C : Nat) : Int) := by
  unfold stp; rw [h2, Nat.zero_mul, Nat.xor_zero]; omega
theorem str_app (a b : List Int) : strOfNums a ++ strOfNums b = strOfNums (a ++ b) := by
  apply ByteArray.ext
  simp [strOfNums]

set_option maxHeartbeats 400000 in
theorem refsum_any (s : ByteArray) (zs : List Int) (w : World) (hm : s.size ≤ 9223372036854775807) (hs : Sz s zs) (hr : ByteL zs) :
    Calls Tryz.prog 85 #[.string s] w fun e w' => e = .returned (.int .u32 (crc zs : Nat)) ∧ w' = w := by
  have hlt := cr_lt zs 4294967295 hr (by decide)
  have hcs := hide (crc_sub zs hr)
  have hz := hide (range_of hr)
  have HS := hide hs
  clear hs hr
  go_enter Tryz.func85, Tryz.ntmps85
  go_wp2
  go_loop [3, 4] (fun v i => ∃ k C : Nat, k ≤ s.size ∧ i = .int .i64 k ∧ v = .int .u32 C ∧ C < 4294967296 ∧ Hid (cr (zs.drop k) C = cr zs 4294967295)) (fun _ i => s.size - (intOf i).toNat)
  case atStart => exact ⟨0, 4294967295, by omega, rfl, rfl, by omega, hide (by simp)⟩
  case round =>
    obtain ⟨k, C, hk, rfl, rfl, hC, hT⟩ := hrel
    by_cases hlk : k < s.size
    · have hck := HS.out.2 k hlk
      have hzk := hz.out k
      have hx : Hid (bits BinOp.xor IntKind.u32 (C : Int) (zs.getD k 0) = ((C ^^^ (zs.getD k 0).toNat : Nat) : Int)) := by
        obtain ⟨Z, hZ⟩ := Int.eq_ofNat_of_zero_le hzk.1
        rw [hZ, u32_xor_nat _ _ hC (by omega)]
        exact hide rfl
      have hD : C ^^^ (zs.getD k 0).toNat < 4294967296 := Nat.xor_lt_two_pow (n := 32) hC (by omega)
      have HT := hide (show cr (zs.drop (k + 1)) (it 8 (C ^^^ (zs.getD k 0).toNat)) = cr zs 4294967295 by rw [← hT.out]; exact (cr_at zs k C (by rw [← HS.out.1]; exact hlk)).symm)
      generalize hzz : zs.getD k 0 = z at *
      generalize hDD : C ^^^ z.toNat = D at *
      clear hzz hDD
      go_wp2
      rw [hx.out]
      go_loop [3, 5] (fun v i => ∃ j E : Nat, j ≤ 8 ∧ i = .int .i64 j ∧ v = .int .u32 E ∧ E < 4294967296 ∧ Hid (it (8 - j) E = it 8 D)) (fun _ i => 8 - (intOf i).toNat)
      case atStart => exact ⟨0, D, by omega, rfl, rfl, hD, hide rfl⟩
      case round =>
        obtain ⟨j, E, hj, rfl, rfl, hE, hU⟩ := hrel
        by_cases hj8 : j < 8
        · have hl := u32_low E hE
          have hst := hide (stp_lt E hE)
          have hU' := hide (show it (8 - (j + 1)) (stp E) = it 8 D by rw [← hU.out, show 8 - j = 8 - (j + 1) + 1 from by omega, it])
          by_cases h2 : E % 2 = 1
          · have ho := hide (u32_odd E hE h2)
            rw [h2] at hl
            clear h2
            go_wp2
            go_round
            case rel => exact ⟨j + 1, stp E, by omega, by go_num, by rw [← ho.out], hst.out, hU'⟩
            case measure => simp [intOf]; omega
          · have ho := hide (u32_even E (by omega))
            rw [show E % 2 = 0 from by omega] at hl
            clear h2
            go_wp2
            go_round
            case rel => exact ⟨j + 1, stp E, by omega, by go_num, by rw [← ho.out], hst.out, hU'⟩
            case measure => simp [intOf]; omega
        · have h8 : j = 8 := by omega
          subst h8
          have hU' := hide (show E = it 8 D from hU.out)
          go_wp2
          go_round
          case rel => exact ⟨k + 1, E, by omega, by go_num, rfl, hE, hide (by rw [hU'.out]; exact HT.out)⟩
          case measure => simp [intOf]; omega
    · have h8 : k = s.size := by omega
      subst h8
      have hT' := hide (show C = cr zs 4294967295 from by have := hT.out; rwa [List.drop_eq_nil_of_le (by rw [← HS.out.1]; exact Nat.le_refl _)] at this)
      go_wp2
      go_ret
      exact ⟨by rw [hcs.out, ← hT'.out, ← not_int C hC]; rfl, rfl⟩

theorem refseal_any (s : ByteArray) (zs : List Int) (w : World) (hs : s = strOfNums zs) (hm : zs.length ≤ 70368744177664) (hr : ByteL zs) :
    Calls Tryz.prog 63 #[.string s] w fun e w' => e = .returned (.string (strOfNums (sl zs))) ∧ Below w.heap.size w w' := by
  have hsz : s.size ≤ 70368744177664 := by rw [hs, str_size]; exact hm
  have HC := hide (refsum_any s zs w (by omega) (by rw [hs]; exact sz_of zs (range_of hr)) hr)
  have hlt := crc_lt zs hr
  have HS := hide (show s ++ strOfNums (le4 (crc zs) 4) = strOfNums (sl zs) by rw [hs, str_app]; rfl)
  have hcv := hide (fun W => conv_bs (bs_newL W (le4 (crc zs) 4) (le4_range _ 4) _ (le4_arr _ hlt) 4 (le4_len _ 4) (0, 0)))
  have hc4 : (strOfNums (le4 (crc zs) 4)).size = 4 := by rw [str_size, le4_len]
  clear hs
  go_enter Tryz.func63, Tryz.ntmps63
  go_wp2_with fail
  refine HC.out.mono ?_
  rintro e w1 ⟨rfl, rfl⟩
  have hc := hcv.out w1
  generalize strOfNums (le4 (crc zs) 4) = t at *
  generalize crc zs = C at *
  clear hcv
  go_wp2
  go_ret
  exact ⟨by rw [← HS.out]; rfl, (Below.refl _ _).alloc (Nat.le_refl _) _⟩

theorem str_take (zs : List Int) (n : Nat) (h : n ≤ zs.length) : (strOfNums zs).extract 0 n = strOfNums (zs.take n) := by
  apply ByteArray.ext
  simp [strOfNums, List.map_take]
theorem sl_iff (zs : List Int) (n : Nat) (hr : ByteL zs) (hn : zs.length = n + 4) : sl (zs.take n) = zs ↔ good zs n := by
  have hd : (zs.drop n).length = 4 := by rw [List.length_drop]; omega
  constructor
  · intro h
    have hl : (zs.take n).length = n := by rw [List.length_take]; omega
    have := good_sl (zs.take n) (ByteL.take hr n)
    rwa [h, hl] at this
  · intro h
    unfold good at h
    unfold sl
    have : le4 (crc (zs.take n)) 4 = zs.drop n := nn_inj _ _ (by rw [le4_len, hd]) (le4_range _ _) (ByteL.drop hr n) (by rw [nn_le4 _ (crc_lt _ (ByteL.take hr n)), h])
    rw [this, List.take_append_drop]

end Go.Proofs.YtodhljiboakjnaaGreat.Clep

/- What frame.Put does when called (a walk over the translated program): for any bytes of at most 2^45, any kind, any body. -/
namespace Go.Proofs.YtodhljiboakjnaaGreat.Clep
open Go.RowKit
set_option linter.unusedVariables false
set_option maxRecDepth 10000

/-- A head. -/
def hd (k : Int) (n : Nat) : List Int := [k, ((n / 65536 : Nat) : Int), ((n / 256 : Nat) : Int), ((n % 256 : Nat) : Int)]
/-- A frame. -/
def fr (k : Int) (ys : List Int) : List Int := sl (hd k ys.length) ++ sl ys
theorem hd_len (k : Int) (n : Nat) : (hd k n).length = 4 := rfl
theorem hd_range (k : Int) (n : Nat) (h0 : 1 ≤ k) (h1 : k ≤ 100) (hn : n ≤ 60000) : ByteL (hd k n) := by
  intro z hz
  simp only [hd, List.mem_cons, List.not_mem_nil, or_false] at hz
  omega
theorem fr_len (k : Int) (ys : List Int) : (fr k ys).length = ys.length + 12 := by
  unfold fr; rw [List.length_append, sl_len, sl_len, hd_len]; omega
theorem fr_range (k : Int) (ys : List Int) (h0 : 1 ≤ k) (h1 : k ≤ 100) (hn : ys.length ≤ 60000) (h : ByteL ys) : ByteL (fr k ys) :=
  ByteL.append (sl_range _ (hd_range k _ h0 h1 hn)) (sl_range _ h)

theorem fput_arg (a0 a2 : Option Addr) (len0 cap0 len2 cap2 : Nat) (k : Int) (w : World) (hk : k < 1 ∨ 100 < k) :
    Calls Tryz.prog 58 #[.slice a0 len0 cap0, .int .i64 k, .slice a2 len2 cap2] w fun e w' => e = .returned (.tuple #[.slice none 0 0, .int .i64 1]) ∧ w' = w := by
  go_enter Tryz.func58, Tryz.ntmps58
  rcases hk with hk | hk
  · go_wp2
    go_ret2
    exact ⟨rfl, rfl⟩
  · have hk2 : ¬ k < 1 := by omega
    go_wp2
    go_ret2
    exact ⟨rfl, rfl⟩
theorem fput_long (a0 a2 : Option Addr) (len0 cap0 len2 cap2 : Nat) (k : Int) (w : World) (hk : 1 ≤ k) (hk2 : k ≤ 100) (hl : 60000 < len2) (hm : len2 ≤ 70368744177664) :
    Calls Tryz.prog 58 #[.slice a0 len0 cap0, .int .i64 k, .slice a2 len2 cap2] w fun e w' => e = .returned (.tuple #[.slice none 0 0, .int .i64 2]) ∧ w' = w := by
  have hn1 : ¬ k < 1 := by omega
  have hn2 : ¬ 100 < k := by omega
  go_enter Tryz.func58, Tryz.ntmps58
  go_wp2
  go_ret2
  exact ⟨rfl, rfl⟩

set_option maxHeartbeats 400000 in
theorem fput_any (a0 a2 : Option Addr) (len0 cap0 len2 cap2 : Nat) (zs ys : List Int) (k : Int) (w : World) (hk : 1 ≤ k) (hk2 : k ≤ 100) (hl : len2 ≤ 60000) (hm : len0 ≤ 35184372088832) (h0 : Bs w a0 len0 cap0 zs) (h2 : Bs w a2 len2 cap2 ys) :
    Calls Tryz.prog 58 #[.slice a0 len0 cap0, .int .i64 k, .slice a2 len2 cap2] w fun e w' => ∃ v, e = .returned (.tuple #[v, .int .i64 0]) ∧ Own w' w.heap.size v (zs ++ fr k ys) ∧ Below w.heap.size w w' := by
  obtain ⟨i0, hi, hz0, hz1, hz2⟩ := info_parts info5
  have hn1 : ¬ k < 1 := by omega
  have hn2 : ¬ 100 < k := by omega
  have l0 := h0.1
  have l2 := h2.1
  have H0 := hide (fun W (hW : Below w.heap.size w W) => h0.below hW (Nat.le_refl _))
  have H2 := hide (fun W (hW : Below w.heap.size w W) => h2.below hW (Nat.le_refl _))
  have HH := hide (hd_range k len2 hk hk2 hl)
  have HA := hide (show #[Value.int IntKind.u8 k, Value.int IntKind.u8 ((len2 : Int) / 65536), Value.int IntKind.u8 ((len2 : Int) / 256), Value.int IntKind.u8 ((len2 : Int) % 256)] = (bv (hd k len2)).toArray by
    simp [bv, hd])
  clear h0 h2
  go_enter Tryz.func58, Tryz.ntmps58
  go_wp2_with (first
    | (at_make; refine wpList_make_own _ rfl _ _ 28 rfl (w.heap.size + 1) 5 i0 (.int .u8 0) 1 Tryz.underlying28 hi hz0 hz1 .i64 .i64 _ (len0 + 8 + len2 + 4) rfl rfl ?c1 ?c2 ?c3 ?c4 ?_)
    | fail)
  case c2 => omega
  case c3 => unfold maxLen; omega
  intro w1 hown hg
  have hs1 : (w.alloc (Obj.cells #[Value.int IntKind.u8 k, Value.int IntKind.u8 ((len2 : Int) / 65536), Value.int IntKind.u8 ((len2 : Int) / 256), Value.int IntKind.u8 ((len2 : Int) % 256)] 5)).heap.size = w.heap.size + 1 := by simp
  have hA : Below w.heap.size w (w.alloc (Obj.cells #[Value.int IntKind.u8 k, Value.int IntKind.u8 ((len2 : Int) / 65536), Value.int IntKind.u8 ((len2 : Int) / 256), Value.int IntKind.u8 ((len2 : Int) % 256)] 5)) := (Below.refl _ w).alloc (Nat.le_refl _) _
  have hD := bs_newL w (hd k len2) HH.out _ HA.out 4 rfl (0, 0)
  have HO1 := hide (show Own w1 (w.heap.size + 1) _ [] from hown)
  generalize w.alloc (Obj.cells #[Value.int IntKind.u8 k, Value.int IntKind.u8 ((len2 : Int) / 65536), Value.int IntKind.u8 ((len2 : Int) / 256), Value.int IntKind.u8 ((len2 : Int) % 256)] 5) = W0 at *
  have HS0 := hide hs1
  have HDK := hide (fun W (hW : Below (w.heap.size + 1) W0 W) => hD.below hW (by rw [hs1]; exact Nat.le_refl _))
  have HBK := hide (fun W (hW : Below (w.heap.size + 1) W0 W) => hA.trans (hW.mono (Nat.le_succ _)))
  have hb1 := (Below.refl (w.heap.size + 1) W0).grown hg (by rw [hs1]; exact Nat.le_refl _) (fun k hk => by cases hk)
  have HSK := hide (fun W (hW : Below (w.heap.size + 1) W0 W) => show w.heap.size + 1 ≤ W.heap.size by have := hW.size; rwa [hs1] at this)
  have HB1 := hide hb1
  clear hown hg hb1 hD HA hA hs1
  go_wp2_with (first
    | (at_builtin; refine wpList_append_bytes rfl _ _ rfl (w.heap.size + 1) _ [] rfl HO1.out a0 len0 cap0 zs rfl (H0.out _ (HBK.out _ HB1.out)) ?d1 ?d2 ?_)
    | fail)
  case d1 => simp; omega
  case d2 => exact HSK.out _ HB1.out
  intro v2 w2 ho2 hb2
  have HB2 := hide (HB1.out.trans hb2)
  have HO2 := hide (show Own w2 (w.heap.size + 1) v2 zs from ho2)
  clear ho2 hb2 HO1 HB1
  go_wp2_with fail
  refine (seal_any _ 4 4 (hd k len2) w2 (by omega) (HDK.out _ HB2.out)).mono ?_
  rintro e w3 ⟨v3, rfl, ho3, hb3⟩
  obtain ⟨g3, c3, rfl, -, -, hbs3⟩ := own_at ho3 (sl_range _ HH.out) 8 (by rw [sl_len, hd_len]) (by omega)
  have HO3 := hide (own_keep HO2.out hb3)
  have HB3 := hide (HB2.out.trans (hb3.mono (HSK.out _ HB2.out)))
  have HS3 := hide hbs3
  clear ho3 hb3 hbs3 HO2
  go_wp2_with (first
    | (at_builtin; refine wpList_append_bytes rfl _ _ rfl (w.heap.size + 1) _ zs rfl HO3.out _ 8 c3 _ rfl HS3.out ?e1 ?e2 ?_)
    | fail)
  case e1 => omega
  case e2 => exact HSK.out _ HB3.out
  intro v4 w4 ho4 hb4
  have HB4 := hide (HB3.out.trans hb4)
  have HO4 := hide ho4
  clear ho4 hb4 HO3 HB3 HS3
  go_wp2_with fail
  refine (seal_any a2 len2 cap2 ys w4 (by omega) (H2.out _ (HBK.out _ HB4.out))).mono ?_
  rintro e w5 ⟨v5, rfl, ho5, hb5⟩
  obtain ⟨g5, c5, rfl, -, -, hbs5⟩ := own_at ho5 (sl_range _ (bs_range (H2.out _ (Below.refl _ w)))) (len2 + 4) (by rw [sl_len, l2]) (by omega)
  have HO5 := hide (own_keep HO4.out hb5)
  have HB5 := hide (HB4.out.trans (hb5.mono (HSK.out _ HB4.out)))
  have HS5 := hide hbs5
  clear ho5 hb5 hbs5 HO4
  go_wp2_with (first
    | (at_builtin; refine wpList_append_bytes rfl _ _ rfl (w.heap.size + 1) _ (zs ++ sl (hd k len2)) rfl HO5.out _ (len2 + 4) c5 _ rfl HS5.out ?f1 ?f2 ?_)
    | fail)
  case f1 => rw [List.length_append, sl_len, hd_len]; omega
  case f2 => exact HSK.out _ HB5.out
  intro v6 w6 ho6 hb6
  have HB6 := hide (HBK.out _ (HB5.out.trans hb6))
  have HO6 := hide ho6
  clear ho6 hb6 HO5 HB5 HS5
  go_wp2
  go_ret2
  exact ⟨_, rfl, by unfold fr; rw [l2]; exact own_base HO6.out (Nat.le_succ _), HB6.out⟩

end Go.Proofs.YtodhljiboakjnaaGreat.Clep

/- Frames as rows of bytes: what a row says that begins with a frame. -/
namespace Go.Proofs.YtodhljiboakjnaaGreat.Clep
open Go.RowKit
set_option linter.unusedVariables false
set_option maxRecDepth 10000

theorem fr_kd (k : Int) (ys r : List Int) : kd (fr k ys ++ r) = k := by simp [kd, fr, sl, hd]
theorem fr_ln (k : Int) (ys r : List Int) (hn : ys.length ≤ 60000) : ln (fr k ys ++ r) = ys.length := by
  simp only [ln, fr, sl, hd, List.cons_append, List.nil_append, List.getD_cons_succ, List.getD_cons_zero]
  omega
theorem fr_head (k : Int) (ys r : List Int) : (fr k ys ++ r).take 8 = sl (hd k ys.length) := by
  unfold fr
  rw [List.append_assoc, List.take_append_of_le_length (by rw [sl_len, hd_len]; omega), List.take_of_length_le (by rw [sl_len, hd_len]; omega)]
theorem fr_bd (k : Int) (ys r : List Int) (hn : ys.length ≤ 60000) : bd (fr k ys ++ r) = sl ys := by
  unfold bd
  rw [fr_ln k ys r hn, Int.toNat_natCast, List.take_append_of_le_length (by rw [fr_len]; omega), List.take_of_length_le (by rw [fr_len]; omega)]
  unfold fr
  rw [List.drop_append_of_le_length (by rw [sl_len, hd_len]; omega), List.drop_eq_nil_of_le (by rw [sl_len, hd_len]; omega), List.nil_append]
theorem fr_bo (k : Int) (ys r : List Int) (hn : ys.length ≤ 60000) : bo (fr k ys ++ r) = ys := by
  unfold bo
  rw [fr_bd k ys r hn, fr_ln k ys r hn, Int.toNat_natCast]
  unfold sl
  rw [List.take_left]
theorem fr_ce (k : Int) (ys r : List Int) (hk : 1 ≤ k) (hk2 : k ≤ 100) (hn : ys.length ≤ 60000) (hy : ByteL ys) : ce (fr k ys ++ r) = 0 := by
  have hg1 : nn ((sl (hd k ys.length)).drop 4) = crc ((sl (hd k ys.length)).take 4) := good_sl (hd k ys.length) (hd_range k _ hk hk2 hn)
  have hg2 : nn ((sl ys).drop ys.length) = crc ((sl ys).take ys.length) := good_sl ys hy
  have hh : he (fr k ys ++ r) = 0 := by unfold he; rw [fr_head, if_pos hg1]
  have hb : be (fr k ys ++ r) = 0 := by unfold be; rw [fr_bd k ys r hn, fr_ln k ys r hn, Int.toNat_natCast, if_pos hg2]
  unfold ce
  rw [if_neg (by rw [List.length_append, fr_len]; omega), if_neg (by simp [hh]), if_neg (by rw [fr_kd, fr_ln k ys r hn]; omega), if_neg (by rw [fr_ln k ys r hn, List.length_append, fr_len]; omega)]
  exact hb
theorem drop_app (zs r : List Int) (P : Nat) (h : zs.length = P) : (zs ++ r).drop P = r := by subst h; exact List.drop_left

end Go.Proofs.YtodhljiboakjnaaGreat.Clep

/- What the document's own FrameOk and Frame (package clepsydraref1) do when called: for any kind, any text. No conditions but the kinds' own bounds. -/
namespace Go.Proofs.YtodhljiboakjnaaGreat.Clep
open Go.RowKit
set_option linter.unusedVariables false
set_option maxRecDepth 10000

/-- What FrameOk answers. -/
def fk (k n : Int) : Int := if k < 1 ∨ 100 < k then 1 else if 60000 < n then 2 else 0
theorem refframe_any (k : Int) (s : ByteArray) (ys : List Int) (w : World) (hk : 1 ≤ k) (hk2 : k ≤ 100) (hs : s = strOfNums ys) (hn : ys.length ≤ 60000) (hr : ByteL ys) :
    Calls Tryz.prog 39 #[.int .i64 k, .string s] w fun e w' => e = .returned (.string (strOfNums (fr k ys))) ∧ Below w.heap.size w w' := by
  have hsz : s.size = ys.length := by rw [hs, str_size]
  have hr2 := hd_range k ys.length hk hk2 hn
  have hH := hide (fun W => refseal_any (strOfNums (hd k ys.length)) (hd k ys.length) W rfl (by rw [hd_len]; omega) hr2)
  have hY := hide (fun W => refseal_any s ys W hs (by omega) hr)
  have hcv := conv_bs (bs_newL w (hd k ys.length) hr2 #[Value.int IntKind.u8 k, Value.int IntKind.u8 ((ys.length : Int) / 65536), Value.int IntKind.u8 ((ys.length : Int) / 256), Value.int IntKind.u8 ((ys.length : Int) % 256)] (by simp [bv, hd]) 4 rfl (0, 0))
  have hadd : ∀ W, (Op.stringOp .add (strOfNums (sl (hd k ys.length))) (strOfNums (sl ys))).run Tryz.prog W = .ok (.string (strOfNums (fr k ys))) W := fun W => by
    unfold fr
    rw [← str_app]
    exact run_string_add_sum W _ _ (by rw [str_size, str_size, sl_len, sl_len, hd_len]; omega)
  have h1 : (strOfNums (sl (hd k ys.length))).size = 8 := by rw [str_size, sl_len, hd_len]
  have h2 : (strOfNums (sl ys)).size = ys.length + 4 := by rw [str_size, sl_len]
  have h3 : (strOfNums (hd k ys.length)).size = 4 := by rw [str_size, hd_len]
  generalize strOfNums (fr k ys) = SF at *
  generalize strOfNums (sl ys) = SY at *
  generalize strOfNums (sl (hd k ys.length)) = SH at *
  generalize strOfNums (hd k ys.length) = H at *
  clear hs hr hr2
  generalize ys.length = n at *
  go_enter Tryz.func39, Tryz.ntmps39
  go_wp2_with fail
  refine (hH.out _).mono ?_
  rintro e w1 ⟨rfl, hb1⟩
  have HB1 := hide (((Below.refl _ w).alloc (Nat.le_refl _) _).trans (hb1.mono (by simp)))
  clear hb1
  go_wp2_with fail
  refine (hY.out _).mono ?_
  rintro e w2 ⟨rfl, hb2⟩
  have HB2 := hide (HB1.out.trans (hb2.mono HB1.out.size))
  clear hb2 hcv
  go_wp2
  go_ret
  exact ⟨rfl, HB2.out⟩

end Go.Proofs.YtodhljiboakjnaaGreat.Clep
