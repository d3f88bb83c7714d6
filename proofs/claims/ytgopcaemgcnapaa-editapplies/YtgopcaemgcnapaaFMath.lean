/- Frames as rows of bytes: what a row says that begins with a frame. -/
import Derived.Test.YtgopcaemgcnapaaFPut
import Derived.Test.YtgopcaemgcnapaaFTake
namespace Go.Proofs.Ytgopcaemgcnapaa.Clep
open Go.RowKit
set_option linter.unusedVariables false
set_option maxRecDepth 10000

theorem fr_kd (k : Int) (ys r : List Int) : kd (fr k ys ++ r) = k := by simp [kd, fr, sl, hd]
theorem fr_ln (k : Int) (ys r : List Int) (hn : ys.length ≤ 60000) : ln (fr k ys ++ r) = ys.length := by
  simp only [ln, fr, sl, hd, List.cons_append, List.nil_append, List.getD_cons_succ, List.getD_cons_zero]
  omega
theorem fr_head (k : Int) (ys r : List Int) : (fr k ys ++ r).take 8 = sl (hd k ys.length) := by
  unfold fr
  rw [List.append_assoc, List.take_append_of_le_length (by rw [sl_len, hd_len]; omega), List.take_of_length_le (by rw [sl_len, hd_len]; omega)]
theorem fr_bd (k : Int) (ys r : List Int) (hn : ys.length ≤ 60000) : bd (fr k ys ++ r) = sl ys := by
  unfold bd
  rw [fr_ln k ys r hn, Int.toNat_natCast, List.take_append_of_le_length (by rw [fr_len]; omega), List.take_of_length_le (by rw [fr_len]; omega)]
  unfold fr
  rw [List.drop_append_of_le_length (by rw [sl_len, hd_len]; omega), List.drop_eq_nil_of_le (by rw [sl_len, hd_len]; omega), List.nil_append]
theorem fr_bo (k : Int) (ys r : List Int) (hn : ys.length ≤ 60000) : bo (fr k ys ++ r) = ys := by
  unfold bo
  rw [fr_bd k ys r hn, fr_ln k ys r hn, Int.toNat_natCast]
  unfold sl
  rw [List.take_left]
theorem fr_ce (k : Int) (ys r : List Int) (hk : 1 ≤ k) (hk2 : k ≤ 100) (hn : ys.length ≤ 60000) (hy : ByteL ys) : ce (fr k ys ++ r) = 0 := by
  have hg1 : nn ((sl (hd k ys.length)).drop 4) = crc ((sl (hd k ys.length)).take 4) := good_sl (hd k ys.length) (hd_range k _ hk hk2 hn)
  have hg2 : nn ((sl ys).drop ys.length) = crc ((sl ys).take ys.length) := good_sl ys hy
  have hh : he (fr k ys ++ r) = 0 := by unfold he; rw [fr_head, if_pos hg1]
  have hb : be (fr k ys ++ r) = 0 := by unfold be; rw [fr_bd k ys r hn, fr_ln k ys r hn, Int.toNat_natCast, if_pos hg2]
  unfold ce
  rw [if_neg (by rw [List.length_append, fr_len]; omega), if_neg (by simp [hh]), if_neg (by rw [fr_kd, fr_ln k ys r hn]; omega), if_neg (by rw [fr_ln k ys r hn, List.length_append, fr_len]; omega)]
  exact hb
theorem drop_app (zs r : List Int) (P : Nat) (h : zs.length = P) : (zs ++ r).drop P = r := by subst h; exact List.drop_left

end Go.Proofs.Ytgopcaemgcnapaa.Clep
