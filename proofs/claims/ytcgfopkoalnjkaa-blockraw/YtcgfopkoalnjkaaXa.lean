/- What the statements' own function take does when called: for any text and any place. Conditions: at most 10^6 bytes. -/
import Derived.Test.YtcgfopkoalnjkaaZn
import Derived.Test.YtcgfopkoalnjkaaZs
import Derived.Test.YtcgfopkoalnjkaaZy
import Derived.Test.YtcgfopkoalnjkaaZz
namespace Go.Proofs.Ytcgfopkoalnjkaa.Clep
open Go.RowKit
set_option linter.unusedVariables false

theorem rd_cases (ys : List Int) : ((rd ys).2 = 0 ∧ (rd ys).1.all It.ok = true) ∨ ((rd ys).2 ≠ 0 ∧ (rd ys).1 = []) := by
  unfold rd
  split
  · rename_i h; exact .inr ⟨h, rfl⟩
  · split
    · exact .inr ⟨by simp, rfl⟩
    · simp only
      split
      · rename_i h; exact .inr ⟨h, rfl⟩
      · split
        · rename_i h; exact .inl ⟨rfl, h.1⟩
        · exact .inr ⟨by simp, rfl⟩
theorem bx_ok (X : List Int) : (bx X).all It.ok = true := by
  rcases rd_cases (bo X) with h | h
  · exact h.2
  · unfold bx; rw [h.2]; rfl
theorem ltake_arg (s : ByteArray) (p : Int) (w : World) (hm : s.size ≤ 1000000) (hp : p < 0 ∨ (s.size : Int) < p) :
    Calls Try.prog 16 #[.string s, .int .i64 p] w fun e w' => e = .returned (.tuple #[.slice none 0 0, .int .i64 0, .int .i64 1]) ∧ w' = w := by
  by_cases h0 : p < 0
  · go_enter Try.func16, Try.ntmps16
    go_wp2
    go_ret3
    exact ⟨rfl, rfl⟩
  · have h1 : (s.size : Int) < p := by omega
    go_enter Try.func16, Try.ntmps16
    go_wp2
    go_ret3
    exact ⟨rfl, rfl⟩
set_option maxRecDepth 100000 in
set_option maxHeartbeats 1000000 in
theorem ltake_any (zs : List Int) (P : Nat) (w : World) (hm : zs.length ≤ 1000000) (hr : ByteL zs) (hP : P ≤ zs.length) (X : List Int) (hX : X = zs.drop P) :
    Calls Try.prog 16 #[.string (strOfNums zs), .int .i64 P] w fun e w' => Below w.heap.size w w' ∧ ((isB X = false ∧ e = .returned (.tuple #[.slice none 0 0, .int .i64 0, .int .i64 9])) ∨
      (isB X = true ∧ ∃ v, e = .returned (.tuple #[v, .int .i64 (P + 12 + ln X), .int .i64 0]) ∧ OwnI w' w.heap.size v (bx X))) := by
  have hU := unframe_any zs P w hm hr hP
  rw [← hX] at hU
  have hsz : (strOfNums zs).size = zs.length := str_size zs
  have hle : (P : Int) ≤ ((strOfNums zs).size : Int) := by rw [hsz]; omega
  generalize strOfNums zs = s at *
  by_cases hce : ce X = 0
  · have hrng := hide (show ∀ z ∈ bo X, 0 ≤ z ∧ z < 256 from fun z hz => hr z (by rw [hX] at hz; exact List.mem_of_mem_drop (List.mem_of_mem_take (List.mem_of_mem_drop (List.mem_of_mem_take hz)))))
    have hbl : (bo X).length ≤ 60000 := by have := ce_ok X hce; rw [bo_len X hce]; omega
    have hRd := hide (fun W => refread_any (strOfNums (bo X)) (bo X).length (bo X) W (str_size _) (by omega) (sz_of _ (range_of hrng.out)) hrng.out)
    have hwf := hide (rd_wf (bo X) hrng.out)
    unfold un at hU
    rw [if_pos hce] at hU
    have HU := hide hU
    by_cases hk : kd X = 2
    · have HE := hide (show isB X = fit (bx X) by unfold isB; rw [Bool.eq_iff_iff]; simp [hce, hk])
      rw [hk] at HU
      clear hU hX hce hk hr hm
      generalize hnx : (P : Int) + 12 + ln X = nx at *
      generalize hsb : strOfNums (bo X) = sb at *
      go_enter Try.func16, Try.ntmps16
      go_wp2_with (first | (go_at_call 33; refine HU.out.mono ?_; rintro e w1 ⟨rfl, hb1⟩) | fail)
      refine (hRd.out _).mono ?_
      rintro e w2 ⟨v, rfl, ho, hb2⟩
      have HB2 := hide (bmore hb1 hb2)
      have HO := hide (ownI_base ho hb1.size)
      obtain ⟨a, c, rfl, hcc, hI, -⟩ := ownI_is ho hwf.out
      have hN : (rd (bo X)).1.length ≤ 9223372036854775807 := Nat.le_trans hI.2.1.1 hcc
      have hbm := hide (blockmay_any a _ c (rd (bo X)).1 w2 hI hN)
      have hbi : Hid ((rd (bo X)).2 = 0 → (bme (rd (bo X)).1 = 0 ↔ fit (bx X) = true)) := hide fun h => by
        refine ⟨fun hb => (bme_zero hb).1, fun hf => bme_of hf ?_⟩
        rcases rd_cases (bo X) with h1 | h1
        · exact h1.2
        · exact absurd h h1.1
      have hbe : Hid ((rd (bo X)).2 ≠ 0 → fit (bx X) = false) := hide fun h => by
        rcases rd_cases (bo X) with h1 | h1
        · exact absurd h1.1 h
        · unfold bx; rw [h1.2]; rfl
      clear HU hRd ho hI hb2
      generalize hLn : (rd (bo X)).1.length = L at *
      generalize hEr : (rd (bo X)).2 = E at *
      generalize hBm : bme (rd (bo X)).1 = B at *
      by_cases hE0 : E = 0
      · subst hE0
        by_cases hB0 : B = 0
        · subst hB0
          have hft := hide ((hbi.out rfl).1 rfl)
          go_wp2_with (first | (go_at_call 12; refine hbm.out.mono ?_; rintro e w3 ⟨rfl, hb3⟩))
          go_ret3
          exact ⟨bmore HB2.out hb3, .inr ⟨HE.out.trans hft.out, _, (by first | rfl | (rw [hnx]; rfl)), ownI_keep HO.out hb3⟩⟩
        · have hft := hide (show fit (bx X) = false by
            cases hf : fit (bx X) with
            | false => rfl
            | true => exact absurd ((hbi.out rfl).2 hf) hB0)
          go_wp2_with (first | (go_at_call 12; refine hbm.out.mono ?_; rintro e w3 ⟨rfl, hb3⟩))
          go_ret3
          exact ⟨bmore HB2.out hb3, .inl ⟨HE.out.trans hft.out, rfl⟩⟩
      · have hft := hide (hbe.out hE0)
        clear hbi hbe hbm
        go_wp2
        go_ret3
        exact ⟨HB2.out, .inl ⟨HE.out.trans hft.out, rfl⟩⟩
    · have HE := hide (show isB X = false by unfold isB; simp [hk])
      generalize kd X = K at *
      clear hU hX hce hr hm hRd
      generalize hnx : (P : Int) + 12 + ln X = nx at *
      go_enter Try.func16, Try.ntmps16
      go_wp2_with (first | (go_at_call 33; refine HU.out.mono ?_; rintro e w1 ⟨rfl, hb1⟩))
      go_ret3
      exact ⟨hb1, .inl ⟨HE.out, rfl⟩⟩
  · unfold un at hU
    rw [if_neg hce] at hU
    have HU := hide hU
    have HE := hide (show isB X = false by unfold isB; simp [hce])
    generalize ce X = K at *
    clear hU hX hr hm
    go_enter Try.func16, Try.ntmps16
    go_wp2_with (first | (go_at_call 33; refine HU.out.mono ?_; rintro e w1 ⟨rfl, hb1⟩))
    go_ret3
    exact ⟨hb1, .inl ⟨HE.out, rfl⟩⟩

end Go.Proofs.Ytcgfopkoalnjkaa.Clep
