/- What the document's own FrameOk and Frame (package clepsydraref1) do when called: for any kind, any text. No conditions but the kinds' own bounds. -/
import Derived.Test.YtgopcaemgcnapaaRefSum
import Derived.Test.YtgopcaemgcnapaaFMath
namespace Go.Proofs.Ytgopcaemgcnapaa.Clep
open Go.RowKit
set_option linter.unusedVariables false
set_option maxRecDepth 10000

/-- What FrameOk answers. -/
def fk (k n : Int) : Int := if k < 1 ∨ 100 < k then 1 else if 60000 < n then 2 else 0
theorem frameok_any (k n : Int) (w : World) : Calls Try.prog 66 #[.int .i64 k, .int .i64 n] w fun e w' => e = .returned (.int .i64 (fk k n)) ∧ w' = w := by
  unfold fk
  by_cases hk : k < 1
  · rw [if_pos (.inl hk)]
    go_enter Try.func66, Try.ntmps66
    go_wp2
    go_ret
    exact ⟨rfl, rfl⟩
  · by_cases hk2 : 100 < k
    · rw [if_pos (.inr hk2)]
      go_enter Try.func66, Try.ntmps66
      go_wp2
      go_ret
      exact ⟨rfl, rfl⟩
    · rw [if_neg (by omega)]
      by_cases hn : 60000 < n
      · rw [if_pos hn]
        go_enter Try.func66, Try.ntmps66
        go_wp2
        go_ret
        exact ⟨rfl, rfl⟩
      · rw [if_neg hn]
        go_enter Try.func66, Try.ntmps66
        go_wp2
        go_ret
        exact ⟨rfl, rfl⟩

theorem refframe_any (k : Int) (s : ByteArray) (ys : List Int) (w : World) (hk : 1 ≤ k) (hk2 : k ≤ 100) (hs : s = strOfNums ys) (hn : ys.length ≤ 60000) (hr : ByteL ys) :
    Calls Try.prog 39 #[.int .i64 k, .string s] w fun e w' => e = .returned (.string (strOfNums (fr k ys))) ∧ Below w.heap.size w w' := by
  have hsz : s.size = ys.length := by rw [hs, str_size]
  have hr2 := hd_range k ys.length hk hk2 hn
  have hH := hide (fun W => refseal_any (strOfNums (hd k ys.length)) (hd k ys.length) W rfl (by rw [hd_len]; omega) hr2)
  have hY := hide (fun W => refseal_any s ys W hs (by omega) hr)
  have hcv := conv_bs (bs_newL w (hd k ys.length) hr2 #[Value.int IntKind.u8 k, Value.int IntKind.u8 ((ys.length : Int) / 65536), Value.int IntKind.u8 ((ys.length : Int) / 256), Value.int IntKind.u8 ((ys.length : Int) % 256)] (by simp [bv, hd]) 4 rfl (0, 0))
  have hadd : ∀ W, (Op.stringOp .add (strOfNums (sl (hd k ys.length))) (strOfNums (sl ys))).run Try.prog W = .ok (.string (strOfNums (fr k ys))) W := fun W => by
    unfold fr
    rw [← str_app]
    exact run_string_add_sum W _ _ (by rw [str_size, str_size, sl_len, sl_len, hd_len]; omega)
  have h1 : (strOfNums (sl (hd k ys.length))).size = 8 := by rw [str_size, sl_len, hd_len]
  have h2 : (strOfNums (sl ys)).size = ys.length + 4 := by rw [str_size, sl_len]
  have h3 : (strOfNums (hd k ys.length)).size = 4 := by rw [str_size, hd_len]
  generalize strOfNums (fr k ys) = SF at *
  generalize strOfNums (sl ys) = SY at *
  generalize strOfNums (sl (hd k ys.length)) = SH at *
  generalize strOfNums (hd k ys.length) = H at *
  clear hs hr hr2
  generalize ys.length = n at *
  go_enter Try.func39, Try.ntmps39
  go_wp2_with fail
  refine (hH.out _).mono ?_
  rintro e w1 ⟨rfl, hb1⟩
  have HB1 := hide (((Below.refl _ w).alloc (Nat.le_refl _) _).trans (hb1.mono (by simp)))
  clear hb1
  go_wp2_with fail
  refine (hY.out _).mono ?_
  rintro e w2 ⟨rfl, hb2⟩
  have HB2 := hide (HB1.out.trans (hb2.mono HB1.out.size))
  clear hb2 hcv
  go_wp2
  go_ret
  exact ⟨rfl, HB2.out⟩

end Go.Proofs.Ytgopcaemgcnapaa.Clep
