/- What the document's over and Over do when called (walks over the translated program). Conditions: at most 1,000 files, each of 0 to 1,000,000 items. -/
import Derived.Test.YtcbphalhjajapaaHDone
namespace Go.Proofs.Ytcbphalhjajapaa.Clep
open Go.RowKit
set_option linter.unusedVariables false
set_option linter.unusedSimpArgs false

theorem ovr_three (l : List He) : overE l = zn ((List.range 3).filter (ovr l)) := by
  unfold overE
  rw [filt_succ, if_neg (by simp [ovr]), List.append_nil]
set_option maxRecDepth 100000 in
set_option maxHeartbeats 1000000 in
theorem refover_any (a : Option Addr) (n c : Nat) (l : List He) (k : Nat) (w : World) (h : Hs w a n c l) (hm : Mild l) (hk : k < 3) :
    Calls Try.prog 27 #[.slice a n c, .int .i64 (k : Int)] w fun e w' => e = .returned (.bool (ovr l k)) ∧ Below w.heap.size w w' := by
  have HH := hide (fun W (hW : Below w.heap.size w W) => h.below hW (Nat.le_refl _))
  have HLN := hide h.1
  have HM := hide hm
  have hn1000 : n ≤ 1000 := by have := hm.1; have := h.1; omega
  clear h hm
  go_enter Try.func27, Try.ntmps27
  go_wp2_with fail
  go_loopw [5, 6, 7] (fun s t u wr => ∃ (i : Nat) (C : Nat) (Z : Int), i ≤ n ∧ C ≤ i ∧ 0 ≤ Z ∧ Z ≤ 1000000 ∧ u = .int .i64 i ∧ s = .int .i64 C ∧ t = .int .i64 Z ∧ Hid (C = (posN l k i).length ∧ Z = min (sumP l (posN l k i)) 1000000 ∧ Below w.heap.size w wr)) (fun _ _ u _ => n - (intOf u).toNat)
  case atStart => exact ⟨0, 0, 0, by omega, by omega, by omega, by omega, rfl, rfl, rfl, hide ⟨rfl, by simp [posN, sumP]; omega, Below.refl _ _⟩⟩
  case round =>
    obtain ⟨i, C, Z, hi, hC, hZ0, hZ1, rfl, rfl, rfl, hst⟩ := hrel
    have HB := hide hst.out.2.2
    by_cases hlt : i < n
    · obtain ⟨x, ab, off, hx, rfl, hok, x0, x1, x2, x3, x4⟩ := hs_at (HH.out _ HB.out) i hlt
      have hqi : (i : Int) < (n : Int) := by omega
      have HPS := hide (posN_succ l k i)
      have HLV := hide (lv_of hx)
      have HMV := hide (ml_of hx)
      have hxm := HM.out.2 x (List.mem_of_getElem? hx)
      have HSR := hide (sumP_range HM.out (posN l k i))
      clear hx hok
      obtain ⟨xM, hxM⟩ : ∃ z, x.M = z := ⟨_, rfl⟩
      obtain ⟨xL, hxL⟩ : ∃ z, x.L = z := ⟨_, rfl⟩
      rw [hxM] at x4 hxm HMV
      rw [hxL] at x1 HLV
      clear hxM hxL
      by_cases hl : xL = (k : Int)
      · obtain ⟨Z2, hZ2⟩ : ∃ Z2, min (Z + xM) 1000000 = Z2 := ⟨_, rfl⟩
        have hmx : max xM 0 = xM := by omega
        have hmn : min xM 1000000 = xM := by omega
        have HN := hide (show C + 1 = (posN l k (i + 1)).length ∧ Z2 = min (sumP l (posN l k (i + 1))) 1000000 from by
          obtain ⟨k1, k2, k3⟩ := hst.out
          rw [HPS.out, if_pos (by rw [HLV.out]; exact hl), List.length_append, sumP_snoc, HMV.out]
          have := HSR.out.1
          exact ⟨by simp; omega, by omega⟩)
        have hZ3 : 0 ≤ Z2 ∧ Z2 ≤ 1000000 := by omega
        clear hst
        subst hl
        go_wp2
        go_roundw
        case rel => exact ⟨i + 1, C + 1, Z2, by omega, by omega, hZ3.1, hZ3.2, by go_num, by go_num, by first | rfl | (rw [hZ2]) | (congr 1; go_num), hide ⟨HN.out.1, HN.out.2, HB.out⟩⟩
        case measure => simp [intOf]; omega
      · have ql : (xL == (k : Int)) = false := by simpa using hl
        have HN := hide (show C = (posN l k (i + 1)).length ∧ Z = min (sumP l (posN l k (i + 1))) 1000000 from by
          rw [HPS.out, if_neg (by rw [HLV.out]; exact hl), List.append_nil]
          exact ⟨hst.out.1, hst.out.2.1⟩)
        clear hst hl
        go_wp2
        go_roundw
        case rel => exact ⟨i + 1, C, Z, by omega, by omega, hZ0, hZ1, by go_num, rfl, rfl, hide ⟨HN.out.1, HN.out.2, HB.out⟩⟩
        case measure => simp [intOf]; omega
    · obtain rfl : n = i := by omega
      have hqi : ¬ ((n : Int) < (n : Int)) := by omega
      have HC := hide (show C = (pos l k).length from by rw [hst.out.1]; unfold pos; rw [HLN.out])
      have HZ := hide (show Z = min (sumM l k) 1000000 from by rw [hst.out.2.1]; unfold sumM pos; rw [HLN.out])
      clear hst
      rcases (show k = 0 ∨ k = 1 ∨ k = 2 by omega) with rfl | rfl | rfl
      · by_cases q : (C : Int) ≥ 4
        · have HV := hide (show ovr l 0 = true from decide_eq_true (by have := HC.out; omega))
          go_wp2
          go_ret
          exact ⟨by rw [HV.out]; rfl, HB.out⟩
        · have HV := hide (show ovr l 0 = false from decide_eq_false (by have := HC.out; omega))
          go_wp2
          go_ret
          exact ⟨by rw [HV.out]; rfl, HB.out⟩
      · by_cases q : Z > 200
        · have HV := hide (show ovr l 1 = true from decide_eq_true (by have := HZ.out; omega))
          go_wp2
          go_ret
          exact ⟨by rw [HV.out]; rfl, HB.out⟩
        · have HV := hide (show ovr l 1 = false from decide_eq_false (by have := HZ.out; omega))
          go_wp2
          go_ret
          exact ⟨by rw [HV.out]; rfl, HB.out⟩
      · by_cases q : Z > 2000
        · have HV := hide (show ovr l 2 = true from decide_eq_true (by have := HZ.out; omega))
          go_wp2
          go_ret
          exact ⟨by rw [HV.out]; rfl, HB.out⟩
        · have HV := hide (show ovr l 2 = false from decide_eq_false (by have := HZ.out; omega))
          go_wp2
          go_ret
          exact ⟨by rw [HV.out]; rfl, HB.out⟩
/-- Between the rounds of the document's Over. -/
structure RoS (l : List He) (w W : World) (v : Value) (i : Nat) : Prop where
  o : OwnZ W w.heap.size v (zn ((List.range i).filter (ovr l)))
  b : Below w.heap.size w W
set_option maxRecDepth 100000 in
set_option maxHeartbeats 1000000 in
theorem refovers_any (a : Option Addr) (n c : Nat) (l : List He) (w : World) (h : Hs w a n c l) (hm : Mild l) :
    Calls Try.prog 17 #[.slice a n c] w fun e w' => ∃ v, e = .returned v ∧ OwnZ w' w.heap.size v (overE l) ∧ Below w.heap.size w w' := by
  have HO := hide (fun (k : Nat) W (hk : k < 3) (hW : Below w.heap.size w W) => refover_any a n c l k W (h.below hW (Nat.le_refl _)) hm hk)
  have HE := hide (ovr_three l)
  clear h hm
  go_enter Try.func17, Try.ntmps17
  go_wp2_with fail
  go_loopw [3, 4] (fun v t wr => ∃ i : Nat, i ≤ 3 ∧ t = .int .i64 i ∧ Hid (RoS l w wr v i)) (fun _ t _ => 3 - (intOf t).toNat)
  case atStart => exact ⟨0, by omega, rfl, hide ⟨ownZ_nil _ _, Below.refl _ _⟩⟩
  case round =>
    obtain ⟨i, hi, rfl, hst⟩ := hrel
    by_cases hlt : i < 3
    · have hqi : (i : Int) < 3 := by omega
      have HC := hide (HO.out i wr hlt hst.out.b)
      go_wp2_with fail
      refine HC.out.mono ?_
      rintro e w2 ⟨rfl, hb2⟩
      have hs : RoS l w w2 u3 i := ⟨xrow_keep hst.out.o hb2, hst.out.b.trans (hb2.mono hst.out.b.size)⟩
      have HFS := hide (filt_succ (ovr l) i)
      clear HC hst hb2
      cases hov : ovr l i with
      | false =>
        have HR := hide (show RoS l w w2 u3 (i + 1) from ⟨by rw [HFS.out, hov, if_neg (by simp), List.append_nil]; exact hs.o, hs.b⟩)
        clear hs hov
        go_wp2
        go_roundw
        case rel => exact ⟨i + 1, by omega, by go_num, HR⟩
        case measure => simp [intOf]; omega
      | true =>
        have A3 := (Below.refl _ w2).alloc (Nat.le_refl _) (Obj.cells #[.int .i64 (i : Int)] 3)
        have HE1 := hide (ek_new w2 #[.int .i64 (i : Int)] 3)
        have HO1 := hide (xrow_keep hs.o A3)
        have HB := hide (hs.b.trans (A3.mono hs.b.size))
        have HS := hide (Nat.le_trans hs.b.size A3.size)
        have HLE := hide (show (zn ((List.range i).filter (ovr l))).length ≤ 100000 from by rw [zn_len]; have := List.length_filter_le (ovr l) (List.range i); rw [List.length_range] at this; omega)
        have HFT := hide (show zn ((List.range (i + 1)).filter (ovr l)) = zn ((List.range i).filter (ovr l)) ++ [(i : Int)] from by rw [HFS.out, hov, if_pos rfl, zn_app]; rfl)
        clear hs hov A3
        go_wp2_with (at_builtin; refine wpList_append_zz rfl _ _ rfl w.heap.size _ _ rfl HO1.out w2.heap.size (i : Int) rfl HE1.out HLE.out HS.out ?_; intro v3 w3 ho3 hg3 hk3 _)
        go_roundw
        case rel => exact ⟨i + 1, by omega, by go_num, hide ⟨by rw [HFT.out]; exact ho3, HB.out.grown hg3 HS.out (fun q hq => hk3 q hq)⟩⟩
        case measure => simp [intOf]; omega
    · obtain rfl : i = 3 := by omega
      have hqi : ¬ (((3 : Nat) : Int) < 3) := by omega
      have HR := hide (show OwnZ wr w.heap.size u3 (overE l) ∧ Below w.heap.size w wr from ⟨by rw [HE.out]; exact hst.out.o, hst.out.b⟩)
      clear hst
      go_wp2
      go_ret
      exact ⟨_, rfl, HR.out.1, HR.out.2⟩

end Go.Proofs.Ytcbphalhjajapaa.Clep
