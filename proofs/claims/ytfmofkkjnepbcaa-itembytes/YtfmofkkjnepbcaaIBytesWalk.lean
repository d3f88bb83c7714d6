/- The statement ItemBytes, walked: for any two rows of bytes and any items. No conditions. -/
import Derived.Test.YtfmofkkjnepbcaaIMath
import Derived.Test.YtfmofkkjnepbcaaIRefBytes
import Derived.Test.YtfmofkkjnepbcaaIRefRead
namespace Go.Proofs.Ytfmofkkjnepbcaa.Clep
open Go.RowKit
set_option linter.unusedVariables false

theorem bs_block {w : World} {g off len cap : Nat} {zs : List Int} (h : Bs w (some ⟨g, off, none⟩) len cap zs) (h0 : 0 < len) : g < w.heap.size := by
  obtain ⟨b, o, e, hc⟩ := h.2.2.2 h0
  cases e
  exact World.block_lt_of_cell? w _ (hc 0 h0)
theorem item1_rng (s : List Int × Int) (h : ∀ z ∈ s.1, 0 ≤ z ∧ z < 256) : ∀ z ∈ (item1 s).2.1, 0 ≤ z ∧ z < 256 :=
  num1_rng _ (num1_rng _ (num1_rng _ (one1_rng _ (one1_rng s h).1).1))
theorem rds_wf : ∀ (c : Nat) (s : List Int × Int) (acc : List It), (∀ z ∈ s.1, 0 ≤ z ∧ z < 256) → (∀ x ∈ acc, x.wf) → (∀ x ∈ (rds c s acc).1, x.wf) ∧ (rds c s acc).1.length ≤ acc.length + c
  | 0, s, acc, _, ha => ⟨ha, Nat.le_refl _⟩
  | c + 1, s, acc, hs, ha => by
    rw [rds]
    split
    · simp
    · have := rds_wf c (item1 s).2 (acc ++ [(item1 s).1]) (item1_rng s hs) (fun x hx => by
        rcases List.mem_append.1 hx with h | h
        · exact ha x h
        · rw [List.mem_singleton.1 h]; exact item1_wf s hs)
      refine ⟨this.1, ?_⟩
      have h2 := this.2
      rw [List.length_append] at h2
      simp only [List.length_cons, List.length_nil] at h2
      omega
theorem rd_wf (zs : List Int) (h : ∀ z ∈ zs, 0 ≤ z ∧ z < 256) : (∀ x ∈ (rd zs).1, x.wf) ∧ (rd zs).1.length ≤ 2000 := by
  unfold rd
  have hn := num1_range (zs, 0) h
  split
  · simp
  · split
    · simp
    · have := rds_wf (num1 (zs, 0)).1.toNat (num1 (zs, 0)).2 [] (num1_rng (zs, 0) h) (by simp)
      simp only
      split
      · simp
      · split
        · refine ⟨this.1, ?_⟩
          have h2 := this.2
          rw [show ([] : List It).length = 0 from rfl] at h2
          show (rds (num1 (zs, 0)).1.toNat (num1 (zs, 0)).2 []).1.length ≤ 2000
          omega
        · simp

set_option maxHeartbeats 1000000 in
theorem ibytes_long (a0 a1 a2 : Option Addr) (len0 cap0 len1 cap1 len2 cap2 : Nat) (w : World) (h : 500 < len0 ∨ (len0 ≤ 500 ∧ 300 < len1) ∨ (len0 ≤ 500 ∧ len1 ≤ 300 ∧ 3000 < len2)) (hm0 : len0 ≤ 9223372036854775807) (hm1 : len1 ≤ 9223372036854775807) (hm2 : len2 ≤ 9223372036854775807) :
    Calls Try.prog 4 #[.slice a0 len0 cap0, .slice a1 len1 cap1, .slice a2 len2 cap2] w fun e w' => e = .returned (.bool true) ∧ Below w.heap.size w w' := by
  rcases h with h | ⟨h, h'⟩ | ⟨h, h', h''⟩
  all_goals
    go_enter Try.func4, Try.ntmps4
    go_wp2_with (go_at_call 21; refine (awake5_any _).mono ?_; rintro e w' ⟨rfl, hbel⟩)
    go_ret
    exact ⟨rfl, hbel⟩

set_option maxRecDepth 8000 in
set_option maxHeartbeats 4000000 in
theorem ibytes_bad (a0 a1 a2 : Option Addr) (len0 cap0 len1 cap1 len2 cap2 : Nat) (zs cs : List Int) (l : List It) (w : World) (h0 : Bs w a0 len0 cap0 zs) (h1 : Is w a1 len1 cap1 l) (h2 : Bs w a2 len2 cap2 cs) (hl0 : len0 ≤ 500) (hl1 : len1 ≤ 300) (hl2' : len2 ≤ 3000) (hc2 : cap2 ≤ 9223372036854775807) (rl : List It) (re : Int) (hRR : Hid (rd cs = (rl, re))) (hrw : Hid (∀ x ∈ rl, x.wf)) (hrl : Hid (rl.length ≤ 2000)) (sC : ByteArray) (hsC : Hid (strOfNums cs = sC)) (hok : Hid (l.all It.ok = false)) :
    Calls Try.prog 4 #[.slice a0 len0 cap0, .slice a1 len1 cap1, .slice a2 len2 cap2] w fun e w' => e = .returned (.bool true) ∧ Below w.heap.size w w' := by
  have H0 := hide h0
  have H1 := hide h1
  have H2 := hide h2
  have hzl := hide h0.1
  have HL := hide h1.1
  have HW := hide h1.2.2.1
  have hzr := hide (bs_range h0)
  have hcr := hide (bs_range h2)
  have hl2 := hide h2.1
  clear h0 h1 h2
  have hmay := hide (show may l = 1 by unfold may; rw [if_neg (by rw [HL.out]; omega), if_neg (by rw [hok.out]; decide)])
  go_enter Try.func4, Try.ntmps4
  go_wp2_with fail
  refine (bytes_bad a0 a1 len0 cap0 len1 cap1 zs l w (by omega) (by omega) H0.out H1.out hok.out).mono ?_
  rintro e w1 ⟨rfl, b1⟩
  have B1 := hide b1
  clear b1
  go_wp2_with fail
  refine (may_any a1 len1 cap1 l w1 (by omega) (H1.out.below B1.out (Nat.le_refl _))).mono ?_
  rw [hmay.out]
  rintro e w2 ⟨rfl, b2⟩
  have B2 := hide (bmore B1.out b2)
  clear b2 B1
  have C0 := hide (H2.out.below B2.out (Nat.le_refl _))
  go_wp2_with fail
  refine (read_any a2 len2 cap2 cs w2 hc2 C0.out).mono ?_
  rw [hRR.out]
  rintro e w3 ⟨u1, rfl, ou1, bu1⟩
  have BA := hide (bmore B2.out bu1)
  have OA := hide ou1
  clear ou1 bu1 C0
  have hcv : (convert 27 9 (.slice a2 len2 cap2)).run Try.prog w3 = .ok (.string sC) w3 := by
    have := conv_bs (H2.out.below BA.out (Nat.le_refl _)); rwa [hsC.out] at this
  go_wp2_with fail
  refine (refread_any sC len2 cs w3 (by rw [← hsC.out, str_size, hl2.out]) (by omega) (by rw [← hsC.out]; exact sz_of cs (range_of hcr.out)) hcr.out).mono ?_
  rw [hRR.out]
  rintro e w4 ⟨u2, rfl, ou2, bu2⟩
  have BB := hide (bmore BA.out bu2)
  obtain ⟨ao1, cp1, hv1, -, is1, -⟩ := ownI_is (ownI_keep OA.out bu2) hrw.out
  obtain ⟨ao2, cp2, hv2, -, is2, -⟩ := ownI_is ou2 hrw.out
  have I1 := hide is1
  have I2 := hide is2
  have hlR := hide (show rl.length ≤ 9223372036854775807 by have := hrl.out; omega)
  rw [hv1, hv2]
  clear is1 is2 ou2 bu2 OA hcv hv1 hv2
  generalize rl.length = RL at *
  go_wp2_with fail
  refine (equal_same _ _ RL _ _ rl w4 hlR.out I1.out I2.out).mono ?_
  rintro e w5 ⟨rfl, b5⟩
  have BC := hide (bmore BB.out b5)
  clear b5 I1 I2
  go_wp2_with fail
  refine (awake5_any _).mono ?_
  rintro e w6 ⟨rfl, b6⟩
  have BD := hide (bmore BC.out b6)
  clear b6
  go_wp2
  go_ret
  exact ⟨rfl, BD.out⟩

set_option maxRecDepth 8000 in
set_option maxHeartbeats 4000000 in
theorem ibytes_good (a0 a1 a2 : Option Addr) (len0 cap0 len1 cap1 len2 cap2 : Nat) (zs cs : List Int) (l : List It) (w : World) (h0 : Bs w a0 len0 cap0 zs) (h1 : Is w a1 len1 cap1 l) (h2 : Bs w a2 len2 cap2 cs) (hl0 : len0 ≤ 500) (hl1 : len1 ≤ 300) (hl2' : len2 ≤ 3000) (hc2 : cap2 ≤ 9223372036854775807) (rl : List It) (re : Int) (hRR : Hid (rd cs = (rl, re))) (hrw : Hid (∀ x ∈ rl, x.wf)) (hrl : Hid (rl.length ≤ 2000)) (sC : ByteArray) (hsC : Hid (strOfNums cs = sC)) (hok : Hid (l.all It.ok = true)) (sB sN sP : ByteArray) (LP : Nat) (hsB : Hid (strOfNums zs = sB)) (hsN : Hid (strOfNums (ibn l) = sN)) (hsP : Hid (strOfNums (zs ++ ibn l) = sP)) (tB : sB.size + sN.size ≤ 100000) (kP : (sP.toList == (sB ++ sN).toList) = true) (hLP : Hid ((zs ++ ibn l).length = LP)) :
    Calls Try.prog 4 #[.slice a0 len0 cap0, .slice a1 len1 cap1, .slice a2 len2 cap2] w fun e w' => e = .returned (.bool true) ∧ Below w.heap.size w w' := by
  have H0 := hide h0
  have H1 := hide h1
  have H2 := hide h2
  have hzl := hide h0.1
  have HL := hide h1.1
  have HW := hide h1.2.2.1
  have hzr := hide (bs_range h0)
  have hcr := hide (bs_range h2)
  have hl2 := hide h2.1
  clear h0 h1 h2
  have hmay := hide (show may l = 0 by unfold may; rw [if_neg (by rw [HL.out]; omega), if_pos hok.out])
  have hlr := hide (ibn_range l HW.out (by rw [HL.out]; omega))
  have hln := ibn_len l (by rw [HL.out]; omega)
  have hk1 : len0 < LP ∧ LP ≤ 70000 ∧ Hid (LP - len0 = (ibn l).length) := by
    have := hLP.out; rw [List.length_append, hzl.out] at this
    exact ⟨by omega, by omega, hide (by omega)⟩
  obtain ⟨hk1, hk2, hk3⟩ := hk1
  have hrd := hide (rd_ok l HW.out hok.out (by rw [HL.out]; omega))
  clear hln
  go_enter Try.func4, Try.ntmps4
  go_wp2_with fail
  refine (bytes_any a0 a1 len0 cap0 len1 cap1 zs l w (by omega) (by omega) H0.out H1.out hok.out).mono ?_
  rintro e w1 ⟨v, rfl, o1, b1⟩
  obtain ⟨g, cap, hv1, hcp1, hcm1, hbs1⟩ := own_at o1 (cat_range hzr.out hlr.out) LP hLP.out (by omega)
  rw [hv1]
  have B1 := hide b1
  have S1 := hide hbs1
  clear b1 o1 hv1 hbs1
  go_wp2_with fail
  refine (may_any a1 len1 cap1 l w1 (by omega) (H1.out.below B1.out (Nat.le_refl _))).mono ?_
  rw [hmay.out]
  rintro e w2 ⟨rfl, b2⟩
  have B2 := hide (bmore B1.out b2)
  have S2 := hide (S1.out.below b2 (Nat.le_refl _))
  clear b2 B1 S1
  have p0 : ∀ p : Kp w2, (convert 27 9 (.slice (some ⟨g, 0, none⟩) LP cap)).run Try.prog p.W = .ok (.string sP) p.W := fun p => by
    have := conv_bs (S2.out.below p.h (Nat.le_refl _)); rwa [hsP.out] at this
  have b0 : ∀ p : Kp w2, (convert 27 9 (.slice a0 len0 cap0)).run Try.prog p.W = .ok (.string sB) p.W := fun p => by
    have := conv_bs ((H0.out.below B2.out (Nat.le_refl _)).below p.h (Nat.le_refl _)); rwa [hsB.out] at this
  have kB : ∀ W, (Op.stringOp .add sB sN).run Try.prog W = .ok (.string (sB ++ sN)) W := fun W => run_string_add_sum W _ _ (by omega)
  have hne : Nonempty (Kp w2) := ⟨⟨w2, Below.refl _ _⟩⟩
  have cN : Hid (∀ p : Kp w2, Calls Try.prog 24 #[.slice a1 len1 cap1] p.W fun e w'' => e = .returned (.string sN) ∧ ∃ q : Kp w2, w'' = q.W) := hide fun p => kp_call (by rw [← hsN.out]; exact refbytes_any a1 len1 cap1 l _ (by omega) ((H1.out.below B2.out (Nat.le_refl _)).below p.h (Nat.le_refl _)))
  go_wp2_with fail
  refine wp_region_kept (by kernel_rfl) (by kernel_rfl) ?_
  repeat (first
    | go_big_quiet_step ((go_at_call 24; exact cN.out _))
    | fail)
  refine wpQuiet_nil ?_
  intro w3 hw'
  have B23 : Hid (Below w2.heap.size w2 w3) := by
    obtain ⟨⟨w3', hb3⟩, hw''⟩ := hw'
    rw [hw'']; exact hb3
  clear hw' p0 b0 hne cN kB
  have S3 := hide ((S2.out.below B23.out (Nat.le_refl _)).dropAt len0 (by omega))
  rw [List.drop_append_of_le_length (by rw [hzl.out]; exact Nat.le_refl _), List.drop_of_length_le (by rw [hzl.out]; exact Nat.le_refl _), List.nil_append, Nat.zero_add] at S3
  have B3 := hide (bmore B2.out B23.out)
  have hLc : (len0 : Int) < (cap : Int) := by omega
  clear B2 B23 S2
  go_wp2_with fail
  refine (read_any (some ⟨g, len0, none⟩) (LP - len0) (cap - len0) (ibn l) w3 (by omega) S3.out).mono ?_
  rw [hrd.out]
  rintro e w4 ⟨v4, rfl, o4, b4⟩
  obtain ⟨ao4, cap4, hv4, -, is4, -⟩ := ownI_is o4 HW.out
  rw [HL.out] at hv4 is4
  rw [hv4]
  have I4 := hide is4
  have B4 := hide (bmore B3.out b4)
  clear o4 b4 hv4 is4 B3 S3
  go_wp2_with fail
  refine (equal_same _ _ len1 _ _ l w4 (by omega) I4.out (H1.out.below B4.out (Nat.le_refl _))).mono ?_
  rintro e w5 ⟨rfl, b5⟩
  have B5 := hide (bmore B4.out b5)
  clear b5 I4 B4
  have C0 := hide (H2.out.below B5.out (Nat.le_refl _))
  go_wp2_with fail
  refine (read_any a2 len2 cap2 cs w5 hc2 C0.out).mono ?_
  rw [hRR.out]
  rintro e w6 ⟨u1, rfl, ou1, bu1⟩
  have BA := hide (bmore B5.out bu1)
  have OA := hide ou1
  clear ou1 bu1 C0
  have hcv : (convert 27 9 (.slice a2 len2 cap2)).run Try.prog w6 = .ok (.string sC) w6 := by
    have := conv_bs (H2.out.below BA.out (Nat.le_refl _)); rwa [hsC.out] at this
  go_wp2_with fail
  refine (refread_any sC len2 cs w6 (by rw [← hsC.out, str_size, hl2.out]) (by omega) (by rw [← hsC.out]; exact sz_of cs (range_of hcr.out)) hcr.out).mono ?_
  rw [hRR.out]
  rintro e w7 ⟨u2, rfl, ou2, bu2⟩
  have BB := hide (bmore BA.out bu2)
  obtain ⟨ao1, cp1, hv1, -, is1, -⟩ := ownI_is (ownI_keep OA.out bu2) hrw.out
  obtain ⟨ao2, cp2, hv2, -, is2, -⟩ := ownI_is ou2 hrw.out
  have I1 := hide is1
  have I2 := hide is2
  have hlR := hide (show rl.length ≤ 9223372036854775807 by have := hrl.out; omega)
  rw [hv1, hv2]
  clear is1 is2 ou2 bu2 OA hcv hv1 hv2
  generalize rl.length = RL at *
  go_wp2_with fail
  refine (equal_same _ _ RL _ _ rl w7 hlR.out I1.out I2.out).mono ?_
  rintro e w8 ⟨rfl, b8⟩
  have BC := hide (bmore BB.out b8)
  clear b8 I1 I2
  go_wp2_with fail
  refine (awake5_any _).mono ?_
  rintro e w9 ⟨rfl, b9⟩
  have BD := hide (bmore BC.out b9)
  clear b9
  go_wp2
  go_ret
  exact ⟨rfl, BD.out⟩

theorem ibytes_walk (a0 a1 a2 : Option Addr) (len0 cap0 len1 cap1 len2 cap2 : Nat) (zs cs : List Int) (l : List It) (w : World) (h0 : Bs w a0 len0 cap0 zs) (h1 : Is w a1 len1 cap1 l) (h2 : Bs w a2 len2 cap2 cs) (hm0 : len0 ≤ 9223372036854775807) (hm1 : len1 ≤ 9223372036854775807) (hm2 : len2 ≤ 9223372036854775807) (hc2 : cap2 ≤ 9223372036854775807) :
    Calls Try.prog 4 #[.slice a0 len0 cap0, .slice a1 len1 cap1, .slice a2 len2 cap2] w fun e w' => e = .returned (.bool true) ∧ Below w.heap.size w w' := by
  by_cases hs : len0 ≤ 500 ∧ len1 ≤ 300 ∧ len2 ≤ 3000
  · have hr := rd_wf cs (bs_range h2)
    cases hok : l.all It.ok with
    | false => exact ibytes_bad a0 a1 a2 len0 cap0 len1 cap1 len2 cap2 zs cs l w h0 h1 h2 hs.1 hs.2.1 hs.2.2 hc2 _ _ (hide rfl) (hide hr.1) (hide hr.2) _ (hide rfl) (hide hok)
    | true =>
      have hln := ibs_len l
      have hpl := pu_len l.length
      refine ibytes_good a0 a1 a2 len0 cap0 len1 cap1 len2 cap2 zs cs l w h0 h1 h2 hs.1 hs.2.1 hs.2.2 hc2 _ _ (hide rfl) (hide hr.1) (hide hr.2) _ (hide rfl) (hide hok) _ _ _ _ (hide rfl) (hide rfl) (hide rfl) ?_ (by rw [str_cat]; simp) (hide rfl)
      rw [str_size, str_size, h0.1]
      unfold ibn
      rw [List.length_append]
      have := h1.1
      omega
  · exact ibytes_long a0 a1 a2 len0 cap0 len1 cap1 len2 cap2 w (by omega) hm0 hm1 hm2

theorem row_cap {w : World} {a : Option Addr} {k : IntKind} {len cap : Nat} {zs : List Int}
    (h : (a = none ∧ len = 0 ∧ cap = 0 ∧ zs = []) ∨ ∃ x, a = some x ∧ len ≤ cap ∧ cap ≤ maxLen ∧ zs.length = cap ∧ (∀ i, i < zs.length → w.cell? (x.add i) = some (.int k (zs.getD i 0))) ∧ ∀ n ∈ zs, (Lit.int k n).wf = true) : cap ≤ 9223372036854775807 := by
  rcases h with ⟨_, _, h, _⟩ | ⟨_, _, _, h, _⟩
  · omega
  · unfold maxLen at h; exact h


end Go.Proofs.Ytfmofkkjnepbcaa.Clep
