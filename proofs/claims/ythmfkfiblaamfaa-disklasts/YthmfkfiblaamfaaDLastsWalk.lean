/- Statement DiskLasts says true for any pieces ahead of the Sync and behind it, whatever is kept: the walk over the translated program. -/
import Derived.Test.YthmfkfiblaamfaaDLoop
namespace Go.Proofs.Ythmfkfiblaamfaa.Clep
open Go.RowKit Go.Maps
set_option linter.unusedVariables false

theorem rng_held {F : Nat → Prop} {w : World} {R c L : Nat} {X : List Int} (h : Held F w R (lsg c X L)) : ∀ z ∈ X, 0 ≤ z ∧ z < 256 := by
  obtain ⟨G, D, _⟩ := h
  exact (D.files ⟨1, X, L⟩ (List.mem_singleton.2 rfl)).rng
theorem ext_take (X : List Int) (n : Nat) : (strOfNums X).extract 0 n = strOfNums (X.take n) := by
  apply ByteArray.ext
  simp [strOfNums, ByteArray.data_extract]
theorem lasts_cut (c L : Nat) (A T : List Int) (ks : List Int) (h1 : A.length ≤ L) (h2 : L ≤ (A ++ T).length) :
    ∃ (T4 : List Int) (L4 : Nat), Hid (T4 = T.take T4.length ∧ T4.length ≤ T.length) ∧ Hid (A.length ≤ L4 ∧ L4 ≤ (A ++ T4).length) ∧ Hid (crashS (lsg c (A ++ T) L) ks = lsg c (A ++ T4) L4) := by
  have hk := keepN_le ⟨1, A ++ T, L⟩ ks h2
  simp only at hk
  generalize hn : keepN ⟨1, A ++ T, L⟩ ks = n at hk
  have hlen : (T.take (L + n - A.length)).length = L + n - A.length := by rw [List.length_take]; rw [List.length_append] at hk; omega
  have hcat : (A ++ T).take (L + n) = A ++ T.take (L + n - A.length) := by
    rw [List.take_append, List.take_of_length_le (by omega)]
  refine ⟨T.take (L + n - A.length), L + n, hide ⟨by rw [hlen], by rw [List.length_take]; omega⟩, hide ⟨by omega, by rw [List.length_append, hlen]; omega⟩, hide ?_⟩
  rw [last6, hn, hcat]

set_option maxHeartbeats 2000000 in
set_option maxRecDepth 8000 in
theorem lasts_any (ao : Option Addr) (la ca : Nat) (ka : List Int) (bo : Option Addr) (lb cb : Nat) (kb : List Int) (ko : Option Addr) (lk' ck : Nat) (kk : List Int) (w : World)
    (ha : NumV (· < w.heap.size) w (.slice ao la ca) ka) (hb : NumV (· < w.heap.size) w (.slice bo lb cb) kb) (hk : NumV (· < w.heap.size) w (.slice ko lk' ck) kk) :
    Calls Try.prog 5 #[.slice ao la ca, .slice bo lb cb, .slice ko lk' ck] w fun e w' => e = .returned (.bool true) ∧ Below w.heap.size w w' := by
  have HA := hide ha.at.2
  have HBb := hide hb.at.2
  have HK := hide hk
  have NW := hide (new_h 1048576 w (by omega) 1048576 rfl)
  clear ha hb hk
  go_enter Try.func5, Try.ntmps5
  go_wp2_with fail
  refine NW.out.mono ?_
  rintro e w0 ⟨R, rfl, H0, B0⟩
  have HH0 := hide H0
  have HB0 := hide B0
  clear H0 B0 NW
  go_wp2_with fail
  refine (create_h bF last1 HH0.out (by decide) (by decide)).mono ?_
  rintro e w1 ⟨rfl, H1, S1⟩
  have HH1 := hide H1
  have HB1 := hide (HB0.out.trans (S1.below (fun i hi => hi)))
  clear H1 S1 HH0 HB0
  go_wp2_with fail
  go_loopw [8, 10] (fun s i wr => ∃ (k : Nat) (A : List Int), i = .int .i64 k ∧ k ≤ 20 ∧ s = .string (strOfNums A) ∧ Hid (A.length ≤ 63 * k) ∧ Hid (Held (· < w.heap.size) wr R (ls1 (1 + k) A)) ∧ Hid (Below w.heap.size w wr)) (fun _ i _ => 20 - (intOf i).toNat)
  case atStart => exact ⟨0, [], rfl, by omega, rfl, hide (by simp), HH1, HB1⟩
  case round =>
    obtain ⟨k, A, rfl, hk20, rfl, hA, hH, hB⟩ := hrel
    by_cases hc : k < la ∧ k < 20
    · obtain ⟨ab, aoff, rfl, hq, hcell, hlm⟩ := HA.out k hc.1
      have hi1 : (k : Int) < (la : Int) := by omega
      have hi2 : (k : Int) < 20 := by omega
      have hcr : wr.cell? ⟨ab, aoff + k, none⟩ = some (.int .i64 (ka.getD k 0)) := by rw [hB.out.cell (p := ⟨ab, aoff + k, none⟩) hq]; exact hcell
      obtain ⟨n, hn, hn2⟩ := andm (ka.getD k 0) 63 (by omega)
      generalize ka.getD k 0 = z at *
      have hn' : bits .and .i64 z 63 = (n : Int) := hn
      clear hn hcell hc
      go_wp2_with fail
      refine (bytes_h k n hH.out (by omega) (by omega)).mono ?_
      rintro e w2 ⟨rfl, H2, S2⟩
      have hAl := hA.out
      obtain ⟨c2, w3, hcv, hap⟩ := step_append bF (byt k n) (byt_range k n) (last2 (1 + k) A (byt k n) (by rw [byt_len]; omega)) H2 (by show 1 + k < 1099511627776; omega) (by decide) (by rw [byt_len]; omega) (fun i hi => Nat.lt_of_lt_of_le hi (Nat.le_trans hB.out.size S2.size))
      rw [byt_len] at hcv hap
      have HB2 := hide (hB.out.trans (S2.below (fun i hi => hi)))
      clear H2 S2
      go_wp2_with fail
      refine hap.out.mono ?_
      rintro e w4 ⟨rfl, H4, S4⟩
      have HH4 := hide H4
      have HB4 := hide (HB2.out.trans (S4.below (fun i hi => hi)))
      have hj := str_join A (byt k n)
      have hz1 := str_size A
      have hz2 : (strOfNums (byt k n)).size = n := by rw [str_size, byt_len]
      clear H4 S4 hap HB2 hcv hB hH
      go_wp2
      go_roundw
      case rel => exact ⟨k + 1, A ++ byt k n, by go_num, by omega, rfl, hide (by rw [List.length_append, byt_len]; omega), HH4, HB4⟩
      case measure => simp [intOf]; omega
    · have hx : (¬ ((k : Int) < (la : Int))) ∨ (((k : Int) < (la : Int)) ∧ ¬ ((k : Int) < 20)) := by omega
      clear hc
      rcases hx with hx | ⟨hx, hx2⟩
      all_goals
        go_wp2_with fail
        refine (sync_h bF (last3 (1 + k) A) hH.out (by show 1 + k < 1099511627776; omega) (by decide)).mono ?_
        rintro e w5 ⟨rfl, H5, S5⟩
        have HH5 := hide H5
        have HB5 := hide (hB.out.trans (S5.below (fun i hi => hi)))
        clear H5 S5 hH hB
        go_wp2_with fail
        refine (syncDir_h (last4 (1 + k + 1) A) HH5.out (by show 1 + k + 1 < 1099511627776; omega)).mono ?_
        rintro e w6 ⟨rfl, H6, S6⟩
        have HH6 := hide (show Held (· < w.heap.size) w6 R (lsg (3 + k + 0) (A ++ []) A.length) by rw [List.append_nil, show 3 + k + 0 = 1 + k + 1 + 1 from by omega]; exact H6)
        have HB6 := hide (HB5.out.trans (S6.below (fun i hi => hi)))
        have hAl := hide (show A.length ≤ 1260 by have := hA.out; omega)
        clear H6 S6 HH5 HB5 HA
        go_wp2_with fail
        go_loopw [9, 12] (fun t i wr => ∃ (k2 : Nat) (T : List Int), i = .int .i64 k2 ∧ k2 ≤ 20 ∧ t = .string (strOfNums T) ∧ Hid (T.length ≤ 63 * k2) ∧ Hid (Held (· < w.heap.size) wr R (lsg (3 + k + k2) (A ++ T) A.length)) ∧ Hid (Below w.heap.size w wr)) (fun _ i _ => 20 - (intOf i).toNat)
        case atStart => exact ⟨0, [], rfl, by omega, rfl, hide (by simp), HH6, HB6⟩
        case round =>
          obtain ⟨k2, T, rfl, hk202, rfl, hT, hH2, hB2⟩ := hrel
          by_cases hc2 : k2 < lb ∧ k2 < 20
          · obtain ⟨bb, boff, rfl, hq, hcell, hlm⟩ := HBb.out k2 hc2.1
            have hi1 : (k2 : Int) < (lb : Int) := by omega
            have hi2 : (k2 : Int) < 20 := by omega
            have hcr : wr.cell? ⟨bb, boff + k2, none⟩ = some (.int .i64 (kb.getD k2 0)) := by rw [hB2.out.cell (p := ⟨bb, boff + k2, none⟩) hq]; exact hcell
            obtain ⟨n, hn, hn2⟩ := andm (kb.getD k2 0) 63 (by omega)
            generalize kb.getD k2 0 = z at *
            have hn' : bits .and .i64 z 63 = (n : Int) := hn
            clear hn hcell hc2
            go_wp2_with fail
            refine (bytes_h (100 + k2) n hH2.out (by omega) (by omega)).mono ?_
            rintro e w8 ⟨rfl, H8, S8⟩
            have hTl := hT.out
            have hAl2 := hAl.out
            obtain ⟨c8, w9, hcv, hap⟩ := step_append bF (byt (100 + k2) n) (byt_range (100 + k2) n) (last5 (3 + k + k2) A.length (A ++ T) (byt (100 + k2) n) (by rw [byt_len, List.length_append]; omega)) H8 (by show 3 + k + k2 < 1099511627776; omega) (by decide) (by rw [byt_len]; omega) (fun i hi => Nat.lt_of_lt_of_le hi (Nat.le_trans hB2.out.size S8.size))
            rw [byt_len] at hcv hap
            have HB8 := hide (hB2.out.trans (S8.below (fun i hi => hi)))
            clear H8 S8 hAl2
            go_wp2_with fail
            refine hap.out.mono ?_
            rintro e w10 ⟨rfl, H10, S10⟩
            have HH10 := hide (show Held (· < w.heap.size) w10 R (lsg (3 + k + (k2 + 1)) (A ++ (T ++ byt (100 + k2) n)) A.length) by rw [← List.append_assoc]; exact H10)
            have HB10 := hide (HB8.out.trans (S10.below (fun i hi => hi)))
            have hj := str_join T (byt (100 + k2) n)
            have hz1 := str_size T
            have hz2 : (strOfNums (byt (100 + k2) n)).size = n := by rw [str_size, byt_len]
            clear H10 S10 hap HB8 hcv hB2 hH2
            go_wp2
            go_roundw
            case rel => exact ⟨k2 + 1, T ++ byt (100 + k2) n, by go_num, by omega, rfl, hide (by rw [List.length_append, byt_len]; omega), HH10, HB10⟩
            case measure => simp [intOf]; omega
          · have hy : (¬ ((k2 : Int) < (lb : Int))) ∨ (((k2 : Int) < (lb : Int)) ∧ ¬ ((k2 : Int) < 20)) := by omega
            clear hc2 HBb
            rcases hy with hy | ⟨hy, hy2⟩
            all_goals
              go_wp2_with fail
              go_loopw [9, 14] (fun t i wr => ∃ (k3 L3 : Nat) (T3 : List Int), i = .int .i64 k3 ∧ k3 ≤ 3 ∧ t = .string (strOfNums T3) ∧ Hid (T3.length ≤ 1260) ∧ Hid (A.length ≤ L3 ∧ L3 ≤ (A ++ T3).length) ∧ Hid (Held (· < w.heap.size) wr R (lsg (3 + k + k2) (A ++ T3) L3)) ∧ Hid (Below w.heap.size w wr)) (fun _ i _ => 3 - (intOf i).toNat)
              case atStart => exact ⟨0, A.length, T, rfl, by omega, rfl, hide (by have := hT.out; omega), hide ⟨Nat.le_refl _, by rw [List.length_append]; omega⟩, hH2, hB2⟩
              case round =>
                obtain ⟨k3, L3, T3, rfl, hk3, rfl, hT3, hL3, hH3, hB3⟩ := hrel
                by_cases h3 : k3 < 3
                · have h3' : (k3 : Int) < 3 := by omega
                  obtain ⟨T4, L4, hT4, hT4b, hcr⟩ := lasts_cut (3 + k + k2) L3 A T3 kk hL3.out.1 hL3.out.2
                  go_wp2_with fail
                  refine (crash_h ko lk' ck kk hcr.out hH3.out (by show 3 + k + k2 ≤ 1099511627776; omega) (HK.out.keep (fun j hj _ => hB3.out.block j hj))).mono ?_
                  rintro e wc ⟨rfl, Hc, Sc⟩
                  have HHc := hide Hc
                  have HBc := hide (hB3.out.trans (Sc.below (fun i hi => hi)))
                  clear Hc Sc hH3 hB3 hcr
                  go_wp2_with fail
                  refine (read_h bF (last7 _ _ _) HHc.out (by decide)).mono ?_
                  rintro e wd ⟨xo, xc, rfl, xO, Hd, Bd⟩
                  have HBd := hide (HBc.out.trans (Bd.mono HBc.out.size))
                  have HHd := hide Hd
                  obtain ⟨xo', xc', xe, hall⟩ := own_conv xO (rng_held Hd) (A ++ T4).length rfl
                  injection xe with e1 e2 e3
                  subst e1 e3
                  have hcv := fun n => hall.out (wd.drewN n) (drewN_below wd n)
                  clear Bd xO HBc HHc hall Hd e2
                  have hTT := hT4.out
                  have hTl3 := hT3.out
                  have hAl3 := hAl.out
                  have s1 := str_size A
                  have s2 := str_size T3
                  have s3 := str_size (A ++ T3)
                  have hj := str_join A T3
                  have hx1 : (strOfNums (A ++ T3)).extract 0 (A ++ T4).length = strOfNums (A ++ T4) := by
                    rw [ext_take, List.length_append, List.take_append, List.take_of_length_le (by omega), show A.length + T4.length - A.length = T4.length from by omega, ← hTT.1]
                  have hx2 : (strOfNums T3).extract 0 T4.length = strOfNums T4 := by rw [ext_take, ← hTT.1]
                  have hll : (A ++ T4).length = A.length + T4.length := List.length_append
                  have hll3 : (A ++ T3).length = A.length + T3.length := List.length_append
                  have hT4l := hTT.2
                  rw [hll] at hx1 hcv ⊢
                  rw [hll3] at s3
                  clear hll hll3 hTT
                  generalize hLA : A.length = LA at *
                  have HLA := hide hLA
                  generalize T3.length = LT at *
                  generalize hL4 : T4.length = LT4 at *
                  have HL4 := hide hL4
                  clear hLA hL4
                  have g1 : decide ((LA : Int) + (LT4 : Int) < (LA : Int)) = false := decide_eq_false (by omega)
                  have g2 : decide ((LA : Int) + (LT : Int) < (LA : Int) + (LT4 : Int)) = false := decide_eq_false (by omega)
                  have hwr : IntKind.i64.wrap ((LA : Int) + (LT : Int)) = (LA : Int) + (LT : Int) := by
                    simp only [IntKind.wrap, IntKind.bits, IntKind.signed]
                    simp
                    omega
                  have hs4 : LA + LT ≤ 9223372036854775807 := by omega
                  have hs5 : ¬ (9223372036854775807 < LA + LT) := by omega
                  have hs6 : (Op.stringOp .add (strOfNums A) (strOfNums T3)) = Op.stringOp .add (strOfNums A) (strOfNums T3) := rfl
                  have hadd : ∀ n, (Op.stringOp .add (strOfNums A) (strOfNums T3)).run Try.prog (wd.drewN n) = .ok (.string (strOfNums (A ++ T3))) (wd.drewN n) := fun n => by
                    rw [← hj]
                    have h1 : (strOfNums A).size + (strOfNums T3).size ≤ maxLen := by rw [s1, s2]; unfold maxLen; omega
                    go_simp
                  have hsl : ∀ n, (Instr.slice 9 (.string (strOfNums (A ++ T3))) none (some (.int .i64 ((LA : Int) + (LT4 : Int)))) none).run Try.prog (wd.drewN n) = .ok (.string (strOfNums (A ++ T4))) (wd.drewN n) := fun n => by
                    rw [run_slice_string_h _ _ _ Try.underlying9 _ _ (by omega) (by rw [s3]; omega), show ((LA : Int) + (LT4 : Int)).toNat = LA + LT4 from by omega, hx1]
                  have hsa : ∀ n, (Instr.sliceAt 9 (.string (strOfNums (A ++ T3))) none (some (.int .i64 ((LA : Int) + (LT4 : Int)))) none).run Try.prog (wd.drewN n) = .ok (.string (strOfNums (A ++ T4))) (wd.drewN n) := fun n => by
                    rw [run_sliceAt_string _ _ _ _ _ _ Try.underlying9]; exact hsl n
                  have h00 : (0 : Int) ≤ (LA : Int) + (LT4 : Int) := by omega
                  have h01 : ((LA : Int) + (LT4 : Int)).toNat = LA + LT4 := by omega
                  clear hs6
                  have g4 : decide ((LT : Int) < (LT4 : Int)) = false := decide_eq_false (by omega)
                  have g3 : (LA : Int) + (LT4 : Int) ≤ (LA : Int) + (LT : Int) := by omega
                  go_wp2_with fail
                  go_quiet (fail)
                  have HHe := hide (show Held (· < w.heap.size) (wd.drewN nq) R (lsg (3 + k + k2) (A ++ T4) L4) from (HHd.out.same (drewN_below wd nq)).1)
                  have HBe := hide (show Below w.heap.size w (wd.drewN nq) from ⟨HBd.out.os, HBd.out.tape, HBd.out.output, HBd.out.size, HBd.out.block⟩)
                  generalize wd.drewN nq = we at *
                  have s4 : (LA : Int) + (LT4 : Int) - (LA : Int) = (LT4 : Int) := by omega
                  clear hcv HHd HBd
                  go_wp2
                  go_roundw
                  case rel => exact ⟨k3 + 1, L4, T4, by go_num, by omega, rfl, hide (by rw [HL4.out]; omega), hide (by rw [HLA.out]; exact hT4b.out), HHe, HBe⟩
                  case measure => simp [intOf]; omega
                · have h3' : ¬ ((k3 : Int) < 3) := by omega
                  have hTl3 := hT3.out
                  have hAl3 := hAl.out
                  have s1 := str_size A
                  have s2 := str_size T3
                  have US := hide (used_h hH3.out (by show 3 + k + k2 ≤ 1099511627776; omega))
                  have hll3 : (A ++ T3).length = A.length + T3.length := List.length_append
                  go_wp2_with fail
                  refine US.out.mono ?_
                  rintro e wu ⟨he, _, Bu⟩
                  obtain rfl : e = .returned (.int .i64 ((A.length : Int) + (T3.length : Int))) := by
                    rw [he, last8, hll3]; rfl
                  have HBu := hide (hB3.out.trans (Bu.mono hB3.out.size))
                  have AW := hide (awake_any wu)
                  clear Bu US he hll3
                  generalize A.length = LA at *
                  generalize T3.length = LT at *
                  go_wp2_with fail
                  refine AW.out.mono ?_
                  rintro e wz ⟨rfl, Bz⟩
                  have HBz := hide (HBu.out.trans (Bz.mono HBu.out.size))
                  clear Bz AW
                  go_wp2
                  go_ret
                  exact ⟨rfl, HBz.out⟩

end Go.Proofs.Ythmfkfiblaamfaa.Clep
