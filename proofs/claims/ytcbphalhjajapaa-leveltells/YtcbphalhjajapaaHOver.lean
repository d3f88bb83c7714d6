/- What look.over and look.lowest do when called (walks over the translated program). Conditions: at most 1,000 files, each of 0 to 1,000,000 items. -/
import Derived.Test.YtcbphalhjajapaaHItems
namespace Go.Proofs.Ytcbphalhjajapaa.Clep
open Go.RowKit
set_option linter.unusedVariables false
set_option linter.unusedSimpArgs false

theorem ovr3 (l : List He) : ovr l 3 = false := rfl
theorem low_some {l : List He} {i : Nat} (h : ∀ j, j < i → ovr l j = false) (hi : ovr l i = true) (h4 : i < 4) : low l = some i := by
  unfold low
  rcases (show i = 0 ∨ i = 1 ∨ i = 2 ∨ i = 3 by omega) with rfl | rfl | rfl | rfl
  · rw [if_pos hi]
  · rw [h 0 (by omega), if_neg (by simp), if_pos hi]
  · rw [h 0 (by omega), h 1 (by omega), if_neg (by simp), if_neg (by simp), if_pos hi]
  · rw [ovr3] at hi; cases hi
theorem low_none {l : List He} (h : ∀ j, j < 4 → ovr l j = false) : low l = none := by
  unfold low
  rw [h 0 (by omega), h 1 (by omega), h 2 (by omega)]
  rfl
theorem ovr_0 (l : List He) (N : Nat) (hN : (pos l 0).length = N) : decide ((N : Int) ≥ 4) = ovr l 0 := by
  unfold ovr
  rw [if_pos rfl, hN]
  by_cases h : 4 ≤ N
  · rw [decide_eq_true h, decide_eq_true (by omega)]
  · rw [decide_eq_false h, decide_eq_false (by omega)]
set_option maxRecDepth 100000 in
theorem over_first (b S : Nat) (a : Option Addr) (n c : Nat) (l : List He) (w : World) (hS : S ≤ b) (hSw : S ≤ w.heap.size) (hl : l.length = n) (hn : n ≤ 100000)
    (hb : Ek w b (lkC (.slice a n c) 0 0 nilP) 56) (hF : Hid (∀ W, Below S w W → Hs W a n c l)) :
    Calls Try.prog 26 #[.pointer (some ⟨b, 0, none⟩), .int .i64 0] w fun e w' => e = .returned (.bool (ovr l 0)) ∧ ∃ ps, Lk w' b (.slice a n c) l ps ∧ w.grownBy w' (some b) := by
  have H := hide (on_first b S a n c l 0 w (by omega) hS hSw hl hn hb hF)
  clear hb hF
  go_enter Try.func26, Try.ntmps26
  go_wp2_with fail
  refine H.out.mono ?_
  rintro e w1 ⟨ps, rfl, hlk, hg⟩
  obtain ⟨ao, cap, hps, _, _⟩ := hlk.z 0 (by omega)
  have HO := hide (ovr_0 l _ rfl)
  have HR := hide (show ∃ ps, Lk w1 b (.slice a n c) l ps ∧ w.grownBy w1 (some b) from ⟨ps, hlk, hg⟩)
  generalize (pos l 0).length = N at *
  rw [hps]
  clear hlk hg H
  go_wp2
  go_ret
  exact ⟨by rw [← HO.out]; rfl, HR.out⟩
set_option maxRecDepth 100000 in
theorem over_done (b S : Nat) (a : Option Addr) (n c : Nat) (l : List He) (ps : Nat → Value) (k : Nat) (w : World) (hk : k < 4) (h : Lk w b (.slice a n c) l ps) (hl : l.length = n) (hm : Mild l) (hSw : S ≤ w.heap.size) (hF : Hid (∀ W, Below S w W → Hs W a n c l)) :
    Calls Try.prog 26 #[.pointer (some ⟨b, 0, none⟩), .int .i64 (k : Int)] w fun e w' => e = .returned (.bool (ovr l k)) ∧ Below w.heap.size w w' := by
  rcases (show k = 0 ∨ k = 1 ∨ k = 2 ∨ k = 3 by omega) with rfl | rfl | rfl | rfl
  · have H := hide (on_done b _ l ps 0 w (by omega) h)
    obtain ⟨ao, cap, hps, _, _⟩ := h.z 0 (by omega)
    rw [hps] at H
    have HO := hide (ovr_0 l _ rfl)
    generalize (pos l 0).length = N at *
    clear h hF hm
    go_enter Try.func26, Try.ntmps26
    go_wp2_with fail
    refine H.out.mono ?_
    rintro e w1 ⟨rfl, hb⟩
    have HB := hide hb
    clear hb H
    go_wp2
    go_ret
    exact ⟨by rw [← HO.out]; rfl, HB.out⟩
  · have H := hide (items_any b S a n c l ps 1 w (by omega) h hl hm hSw hF)
    have HO := hide (show decide (200 < sumM l 1) = ovr l 1 from rfl)
    generalize sumM l 1 = M at *
    clear h hF hm
    go_enter Try.func26, Try.ntmps26
    go_wp2_with fail
    refine H.out.mono ?_
    rintro e w1 ⟨rfl, hb⟩
    have HB := hide hb
    have H2 := hide (above_any M 200 w1)
    clear hb H
    go_wp2_with fail
    refine H2.out.mono ?_
    rintro e w2 ⟨rfl, hb2⟩
    have HB2 := hide (HB.out.trans (hb2.mono HB.out.size))
    clear hb2 H2
    go_wp2
    go_ret
    exact ⟨by rw [← HO.out]; rfl, HB2.out⟩
  · have H := hide (items_any b S a n c l ps 2 w (by omega) h hl hm hSw hF)
    have HO := hide (show decide (2000 < sumM l 2) = ovr l 2 from rfl)
    generalize sumM l 2 = M at *
    clear h hF hm
    go_enter Try.func26, Try.ntmps26
    go_wp2_with fail
    refine H.out.mono ?_
    rintro e w1 ⟨rfl, hb⟩
    have HB := hide hb
    have H2 := hide (above_any M 2000 w1)
    clear hb H
    go_wp2_with fail
    refine H2.out.mono ?_
    rintro e w2 ⟨rfl, hb2⟩
    have HB2 := hide (HB.out.trans (hb2.mono HB.out.size))
    clear hb2 H2
    go_wp2
    go_ret
    exact ⟨by rw [← HO.out]; rfl, HB2.out⟩
  · clear h hF hm
    go_enter Try.func26, Try.ntmps26
    go_wp2
    go_ret
    exact ⟨rfl, Below.refl _ _⟩
def lowV (l : List He) : Value := match low l with
  | none => .tuple #[.int .i64 0, .bool false]
  | some k => .tuple #[.int .i64 (k : Int), .bool true]
set_option maxRecDepth 100000 in
set_option maxHeartbeats 1000000 in
theorem lowest_any (b S : Nat) (a : Option Addr) (n c : Nat) (l : List He) (w : World) (hS : S ≤ b) (hSw : S ≤ w.heap.size) (hl : l.length = n) (hm : Mild l)
    (hb : Ek w b (lkC (.slice a n c) 0 0 nilP) 56) (hF : Hid (∀ W, Below S w W → Hs W a n c l)) :
    Calls Try.prog 20 #[.pointer (some ⟨b, 0, none⟩)] w fun e w' => e = .returned (lowV l) ∧ ∃ ps, Lk w' b (.slice a n c) l ps ∧ w.grownBy w' (some b) := by
  have HFI := hide (over_first b S a n c l w hS hSw hl (by have := hm.1; omega) hb hF)
  have HDO := hide (fun (ps : Nat → Value) (k : Nat) (W : World) (hk : k < 4) (h : Lk W b (.slice a n c) l ps) (hg : w.grownBy W (some b)) => over_done b S a n c l ps k W hk h hl hm (Nat.le_trans hSw hg.size) (hide (fun W' hW' => hF.out W' (((Below.refl S w).grown hg hSw (fun q hq => by cases hq; exact hS)).trans hW'))))
  have HS := hide (show ∀ i, i < 4 → (∀ j, j < i → ovr l j = false) → ovr l i = true → lowV l = .tuple #[.int .i64 (i : Int), .bool true] from fun i h4 h h1 => by unfold lowV; rw [low_some h h1 h4])
  have HN := hide (show (∀ j, j < 4 → ovr l j = false) → lowV l = .tuple #[.int .i64 0, .bool false] from fun h => by unfold lowV; rw [low_none h])
  clear hb hF hm
  generalize lowV l = V at *
  go_enter Try.func20, Try.ntmps20
  go_wp2_with fail
  go_loopw [5] (fun t wr => ∃ i : Nat, i ≤ 4 ∧ t = .int .i64 i ∧ Hid ((i = 0 ∧ wr = w) ∨ (0 < i ∧ (∃ ps, Lk wr b (.slice a n c) l ps ∧ w.grownBy wr (some b)) ∧ ∀ j, j < i → ovr l j = false))) (fun t _ => 4 - (intOf t).toNat)
  case atStart => exact ⟨0, by omega, rfl, hide (.inl ⟨rfl, rfl⟩)⟩
  case round =>
    obtain ⟨i, hi, rfl, hst⟩ := hrel
    by_cases hlt : i < 4
    · have hqi : (i : Int) < 4 := by omega
      have HC := hide (show Calls Try.prog 26 #[.pointer (some ⟨b, 0, none⟩), .int .i64 (i : Int)] _ fun e w' => e = .returned (.bool (ovr l i)) ∧ (∃ ps, Lk w' b (.slice a n c) l ps ∧ w.grownBy w' (some b)) ∧ ∀ j, j < i → ovr l j = false from by
        rcases hst.out with ⟨rfl, rfl⟩ | ⟨h0, ⟨ps, hlk, hg⟩, hno⟩
        · exact HFI.out.mono fun e w' ⟨he, hr⟩ => ⟨he, hr, fun j hj => absurd hj (Nat.not_lt_zero j)⟩
        · exact (HDO.out ps i _ hlt hlk hg).mono fun e w' ⟨he, hb⟩ => ⟨he, ⟨ps, hlk.keep hb, hg.trans (fgb_below hb _)⟩, hno⟩)
      clear hst
      go_wp2_with fail
      refine HC.out.mono ?_
      rintro e w2 ⟨rfl, hr, hno⟩
      have HR := hide hr
      have HNO := hide hno
      clear hr hno HC
      cases ho : ovr l i with
      | true =>
        have HV := hide (HS.out i hlt HNO.out ho)
        clear HS HN HFI HDO ho
        go_wp2
        go_ret2
        exact ⟨by rw [HV.out]; rfl, HR.out⟩
      | false =>
        have HNN := hide (show ∀ j, j < i + 1 → ovr l j = false from fun j hj => by
          by_cases e : j = i
          · rw [e]; exact ho
          · exact HNO.out j (by omega))
        clear ho
        go_wp2
        go_roundw
        case rel => exact ⟨i + 1, by omega, by go_num, hide (.inr ⟨by omega, HR.out, HNN.out⟩)⟩
        case measure => simp [intOf]; omega
    · obtain rfl : i = 4 := by omega
      rcases hst.out with ⟨h, _⟩ | ⟨_, hr, hno⟩
      · omega
      have HR := hide hr
      have HV := hide (HN.out hno)
      clear hst hr hno HS HN HFI HDO
      go_wp2
      go_ret2
      exact ⟨by rw [HV.out]; rfl, HR.out⟩

end Go.Proofs.Ytcbphalhjajapaa.Clep
