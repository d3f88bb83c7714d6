/- What the document's own BatchMay and Batch do when called (walks over the translated program): for any items. -/
import Derived.Test.YtdldpdllhnpdaaaGreatLa
import Derived.Test.YtdldpdllhnpdaaaGreatZn
namespace Go.Proofs.YtdldpdllhnpdaaaGreat.Clep
open Go.RowKit
set_option linter.unusedVariables false
set_option maxRecDepth 10000

set_option maxHeartbeats 400000 in
theorem rmay_any (a : Option Addr) (n c : Nat) (l : List It) (w : World) (h : Is w a n c l) (hn : n ≤ 9223372036854775807) :
    Calls Tryz.prog 10 #[.slice a n c] w fun e w' => e = .returned (.int .i64 (bmay l)) ∧ Below w.heap.size w w' := by
  have hl := h.1
  have HM := hide (show bmay l = if l.length = 0 then 1 else if may l ≠ 0 then may l else if 60000 < (ibn l).length then 2 else 0 from rfl)
  have H0 := hide (fun W (hW : Below w.heap.size w W) => h.below hW (Nat.le_refl _))
  have C := hide (may_any a n c l w hn h)
  rw [hl] at HM
  have HL := hide (show may l = 0 → n ≤ 2000 from fun e => by
    unfold may at e
    split at e
    · cases e
    · omega)
  clear h hl
  generalize bmay l = M at *
  by_cases h0 : n = 0
  · have e : M = 1 := by rw [HM.out, if_pos h0]
    subst h0 e
    clear HM
    go_enter Tryz.func10, Tryz.ntmps10
    go_wp2
    go_ret
    exact ⟨rfl, Below.refl _ _⟩
  · rw [if_neg h0] at HM
    have hn0 : ¬ ((n : Int) = 0) := by omega
    go_enter Tryz.func10, Tryz.ntmps10
    go_wp2_with fail
    refine C.out.mono ?_
    rintro e w1 ⟨rfl, hb⟩
    have HB := hide hb
    by_cases hm : may l = 0
    · have R := hide (refbytes_any a n c l w1 (HL.out hm) (H0.out _ hb))
      rw [if_neg (by simp [hm])] at HM
      rw [hm]
      have hs := str_size (ibn l)
      have hsm := (ibn_len l (by rw [(H0.out _ hb).1]; exact HL.out hm)).2
      clear hb C HL hm H0
      generalize (ibn l).length = L at *
      go_wp2_with fail
      refine R.out.mono ?_
      rintro e w2 ⟨rfl, hb2⟩
      have HB2 := hide (bmore HB.out hb2)
      clear hb2 R
      by_cases hL : 60000 < L
      · have e : M = 2 := by rw [HM.out, if_pos hL]
        subst e
        clear HM
        go_wp2
        go_ret
        exact ⟨rfl, HB2.out⟩
      · have e : M = 0 := by rw [HM.out, if_neg hL]
        subst e
        clear HM
        go_wp2
        go_ret
        exact ⟨rfl, HB2.out⟩
    · have e : M = may l := by rw [HM.out, if_pos hm]
      subst e
      clear HM hb HL C
      go_wp2
      go_ret
      exact ⟨rfl, HB.out⟩
theorem rbatch_any (a : Option Addr) (n c : Nat) (l : List It) (w : World) (h : Is w a n c l) (hg : Bg l) :
    Calls Tryz.prog 12 #[.slice a n c] w fun e w' => e = .returned (.string (strOfNums (bt l))) ∧ Below w.heap.size w w' := by
  have hl := h.1
  have C := hide (refbytes_any a n c l w (by have := hg.len; omega) h)
  have HF := hide (fun W => refframe_any 1 (strOfNums (ibn l)) (ibn l) W (by omega) (by omega) rfl hg.sz hg.byte)
  have HBT := hide (show bt l = fr 1 (ibn l) from rfl)
  clear h hg hl
  go_enter Tryz.func12, Tryz.ntmps12
  go_wp2_with fail
  refine C.out.mono ?_
  rintro e w1 ⟨rfl, hb⟩
  have HB := hide hb
  clear hb C
  go_wp2_with fail
  refine (HF.out w1).mono ?_
  rintro e w2 ⟨rfl, hb2⟩
  have HB2 := hide (bmore HB.out hb2)
  clear hb2
  rw [← HBT.out]
  go_wp2
  go_ret
  exact ⟨rfl, HB2.out⟩

end Go.Proofs.YtdldpdllhnpdaaaGreat.Clep
