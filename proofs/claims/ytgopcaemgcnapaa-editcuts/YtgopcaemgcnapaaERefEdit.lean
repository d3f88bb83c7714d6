/- What the document's own Edit does when called (a walk over the translated program): for any Edit that may be. -/
import Derived.Test.YtgopcaemgcnapaaEBodyW
import Derived.Test.YtgopcaemgcnapaaRefFrame
namespace Go.Proofs.Ytgopcaemgcnapaa.Clep
open Go.RowKit
set_option linter.unusedVariables false
set_option maxRecDepth 10000

/-- The number n as a text. -/
def NumS (n : Int) (s : ByteArray) : Prop := 0 ≤ n ∧ n ≤ 18446744073709551615 ∧ strOfNums (pu n) = s
theorem nums_of (n : Int) (h0 : 0 ≤ n) (h1 : n ≤ 18446744073709551615) : ∃ s, NumS n s ∧ s.size ≤ 10 := ⟨_, ⟨h0, h1, rfl⟩, by rw [str_size]; exact (pu_len n).2⟩

set_option maxHeartbeats 4000000 in
theorem redit_any (da : Option Addr) (dn dc : Nat) (aa : Option Addr) (an ac : Nat) (E : Ed) (w : World) (hd : Zs w da dn dc E.d) (ha : Fs w aa an ac E.a) (hm : emay E = 0) (hu : 0 ≤ E.fl ∧ 0 ≤ E.ct ∧ 0 ≤ E.at9 ∧ 0 ≤ E.ls) :
    Calls Try.prog 16 #[edV da dn dc aa an ac E] w fun e w' => e = .returned (.string (strOfNums (fr 6 (ebd E)))) ∧ Below w.heap.size w w' := by
  have hld := hd.1
  have hla := ha.1
  have HD := hide (fun W (hW : Below w.heap.size w W) => hd.below hW (Nat.le_refl _))
  have HA := hide (fun W (hW : Below w.heap.size w W) => ha.below hW (Nat.le_refl _))
  have hp := emay_parts hm
  have hel := ebd_len hm
  have HE := hide (show ebd E = li E.d ++ (pu (E.a.length : Int) ++ (fbs E.a ++ rest [E.lg, E.fl, E.ct, E.at9, E.ls] 0)) from rfl)
  generalize ebd E = R at *
  obtain ⟨d, a, lg, fl, ct, at9, ls⟩ := E
  unfold edV
  simp only at hld hla HD HA HE hp hu ⊢
  rw [hla] at HE
  obtain ⟨⟨hp1, hp2⟩, hp3, hp4, hp5, hp6, hp7, hp8, hp9⟩ := hp
  have hdn : dn ≤ 40 := by omega
  have han : an ≤ 40 := by omega
  have HP3 := hide hp3
  have HP4 := hide hp4
  have HRD := hide (show ByteL (li d) from li_range d (urange_of fun z hz => by have := hp3 z hz; omega) (by omega))
  have hlld := (li_len d (by omega)).2
  have hwlg : IntKind.u64.wrap lg = lg := by
    simp [IntKind.wrap, IntKind.bits, IntKind.signed]
    omega
  have hwan : IntKind.u64.wrap (an : Int) = (an : Int) := by
    simp [IntKind.wrap, IntKind.bits, IntKind.signed]
    omega
  clear hd ha hm hp3 hp4
  have A0 := (Below.refl w.heap.size w).alloc (Nat.le_refl _) (Obj.cells #[.slice da dn dc, .slice aa an ac, .int .i64 lg, .int .u64 fl, .int .u64 ct, .int .u64 at9, .int .u64 ls] 31)
  have HB0 := hide A0
  have hK := hide (show ∀ W, Below (w.heap.size + 1) (w.alloc (Obj.cells #[.slice da dn dc, .slice aa an ac, .int .i64 lg, .int .u64 fl, .int .u64 ct, .int .u64 at9, .int .u64 ls] 31)) W → Ek W w.heap.size #[.slice da dn dc, .slice aa an ac, .int .i64 lg, .int .u64 fl, .int .u64 ct, .int .u64 at9, .int .u64 ls] 31 from fun W hW => (ek_new w _ _).below hW (by omega))
  clear A0
  go_enter Try.func16, Try.ntmps16
  go_wp2_with fail
  generalize hwa : w.alloc (Obj.cells #[.slice da dn dc, .slice aa an ac, .int .i64 lg, .int .u64 fl, .int .u64 ct, .int .u64 at9, .int .u64 ls] 31) = wa at *
  have hsa : wa.heap.size = w.heap.size + 1 := by rw [← hwa]; simp
  clear hwa
  have HBW := hide (show ∀ W, Below (w.heap.size + 1) wa W → Below w.heap.size w W ∧ w.heap.size + 1 ≤ W.heap.size from fun W hW => ⟨HB0.out.trans (hW.mono (by omega)), by have := hW.size; omega⟩)
  go_loopw [3, 4] (fun v s wr => ∃ k : Nat, k ≤ dn ∧ s = .int .i64 k ∧ Hid (OwnU wr (w.heap.size + 1) v (d.take k)) ∧ Hid (Below (w.heap.size + 1) wa wr)) (fun _ s _ => dn - (intOf s).toNat)
  case atStart => exact ⟨0, by omega, rfl, hide (ownU_nil _ _), hide (Below.refl _ _)⟩
  case round =>
    obtain ⟨k, hk, rfl, hown, hbel⟩ := hrel
    have k0 : wr.cell? ⟨w.heap.size, 0, none⟩ = some (.slice da dn dc) := (hK.out wr hbel.out).cell rfl
    by_cases hlt : k < dn
    · obtain ⟨z, b, off, hz, rfl, hc, hz1, hz2⟩ := zs_at (HD.out wr (HBW.out wr hbel.out).1) k hlt
      have hzr := HP3.out z (List.mem_of_getElem? hz)
      have hwz : IntKind.u64.wrap z = z := by
        simp [IntKind.wrap, IntKind.bits, IntKind.signed]
        omega
      have HT := hide (show d.take (k + 1) = d.take k ++ [z] from by rw [List.take_add_one, hz]; rfl)
      have HLT := hide (show (d.take k).length ≤ 100000 from by rw [List.length_take]; omega)
      have A1 := (Below.refl _ wr).alloc (Nat.le_refl _) (Obj.cells #[.int .u64 z] 24)
      have HO1 := hide (ownU_below hown.out A1)
      have HE1 := hide (ek_new wr #[.int .u64 z] 24)
      have HS1 := hide (Nat.le_trans (HBW.out wr hbel.out).2 A1.size)
      have HB1 := hide (hbel.out.trans (A1.mono (HBW.out wr hbel.out).2))
      clear hz hz1 hz2 A1
      go_wp2_with (first
        | (at_builtin; refine wpList_append_u rfl _ _ rfl (w.heap.size + 1) _ (d.take k) rfl HO1.out wr.heap.size z rfl HE1.out HLT.out HS1.out ?_; intro v2 w2 o2 g2 k2; have HO2 := hide o2; have HB2 := hide (HB1.out.grown g2 HS1.out k2); clear o2 g2 k2)
        | fail)
      go_roundw
      case rel => exact ⟨k + 1, by omega, by go_num, hide (by rw [HT.out]; exact HO2.out), HB2⟩
      case measure => simp [intOf]; omega
    · obtain rfl : k = dn := by omega
      have hown2 := hown.out
      rw [List.take_of_length_le (by omega)] at hown2
      obtain ⟨au, cu, hvu, hus⟩ := ownU_us hown2 (fun z hz => by have := HP3.out z hz; omega)
      rw [hld] at hvu hus
      subst hvu
      have HB1 := hide hbel.out
      have HUS := hide hus
      obtain ⟨s0, hs0⟩ : ∃ s, strOfNums (li d) = s := ⟨_, rfl⟩
      have hs0l : s0.size ≤ 410 := by rw [← hs0, str_size]; omega
      obtain ⟨s1, hs1, hs1l⟩ := nums_of (an : Int) (by omega) (by omega)
      have p1 : ∀ p : Kp wr, p.W.cell? ⟨w.heap.size, 1, none⟩ = some (.slice aa an ac) := fun p => (hK.out p.W (HB1.out.trans (p.h.mono (HBW.out wr HB1.out).2))).cell rfl
      have cL : Hid (∀ p : Kp wr, Calls Try.prog 37 #[.slice au k cu] p.W fun e w'' => e = .returned (.string s0) ∧ ∃ q : Kp wr, w'' = q.W) := hide fun p => kp_call (by rw [← hs0]; exact reflist_any au k cu d p.W (by omega) (HUS.out.below p.h (Nat.le_refl _)))
      have cN : Hid (∀ p : Kp wr, Calls Try.prog 38 #[.int .u64 (an : Int)] p.W fun e w'' => e = .returned (.string s1) ∧ ∃ q : Kp wr, w'' = q.W) := hide fun p => kp_call (by rw [← hs1.2.2]; exact refnum_any p.W _ hs1.1 hs1.2.1)
      have hadd : ∀ W, (Op.stringOp .add s0 s1).run Try.prog W = .ok (.string (s0 ++ s1)) W := fun W => run_string_add_sum W _ _ (by omega)
      have hne : Nonempty (Kp wr) := ⟨⟨_, Below.refl _ _⟩⟩
      have HS0 := hide hs0
      have HS1 := hide hs1
      clear hown hown2 hus hbel hs0 hs1
      go_wp2_with fail
      refine wp_region_kept (by kernel_rfl) (by kernel_rfl) ?_
      repeat (first
        | go_big_quiet_step (first | (go_at_call 37; exact cL.out _) | (go_at_call 38; exact cN.out _))
        | fail)
      refine wpQuiet_nil ?_
      intro w3 hw'
      have hb3 : Below wr.heap.size wr w3 := by
        obtain ⟨⟨w3', hb3⟩, hw''⟩ := hw'
        rw [hw'']; exact hb3
      have HB3 := hide (HB1.out.trans (hb3.mono (HBW.out wr HB1.out).2))
      obtain ⟨pre, hpre⟩ : ∃ pre, li d ++ pu (an : Int) = pre := ⟨_, rfl⟩
      have HPS : Hid (s0 ++ s1 = strOfNums pre) := hide (by rw [← HS0.out, ← HS1.out.2.2, str_app, hpre])
      have hlp := (pu_len (an : Int)).2
      have hpl : pre.length ≤ 420 := by rw [← hpre, List.length_append]; omega
      have HPR := hide (show ByteL pre from by rw [← hpre]; exact bytel_app HRD.out (pu_range (an : Int) (by omega) (by omega)))
      have HRR : Hid (R = pre ++ (fbs a ++ rest [lg, fl, ct, at9, ls] 0)) := hide (by rw [HE.out, ← hpre, List.append_assoc])
      generalize s0 ++ s1 = sp at *
      clear hw' hne p1 cL cN hadd hb3 hpre HS0 HS1 hlp HE hlld HB1 HUS
      go_wp2_with fail
      go_loopw [5, 6] (fun u s wr => ∃ (j : Nat) (sk : ByteArray), j ≤ an ∧ s = .int .i64 j ∧ u = .string sk ∧ sk.size ≤ 420 + 20 * j ∧ Hid (sk = strOfNums (pre ++ fbs (a.take j))) ∧ Hid (Below (w.heap.size + 1) wa wr)) (fun _ s _ => an - (intOf s).toNat)
      case atStart => exact ⟨0, sp, by omega, rfl, rfl, by rw [HPS.out, str_size]; omega, hide (by rw [HPS.out]; simp [fbs]), HB3⟩
      case round =>
        obtain ⟨j, sk, hj, rfl, rfl, hskl, hsk, hbel⟩ := hrel
        have k1 : wr.cell? ⟨w.heap.size, 1, none⟩ = some (.slice aa an ac) := (hK.out wr hbel.out).cell rfl
        by_cases hlt2 : j < an
        · obtain ⟨f, b, off, hf, rfl, c0, c1, hfw⟩ := fs_at (HA.out _ (HBW.out _ hbel.out).1) j hlt2
          have hfr := HP4.out f (List.mem_of_getElem? hf)
          have HFT := hide (fbs_take hf)
          obtain ⟨fL, fN⟩ := f
          simp only at c0 c1 hfr HFT
          have hwL : IntKind.u64.wrap fL = fL := by
            simp [IntKind.wrap, IntKind.bits, IntKind.signed]
            omega
          have hwN : IntKind.u64.wrap fN = fN := by
            simp [IntKind.wrap, IntKind.bits, IntKind.signed]
            omega
          obtain ⟨t1, ht1, ht1l⟩ := nums_of fL (by omega) (by omega)
          obtain ⟨t2, ht2, ht2l⟩ := nums_of fN (by omega) (by omega)
          have HT1 := hide ht1.2.2
          have HT2 := hide ht2.2.2
          have p1 : ∀ p : Kp wr, p.W.cell? ⟨w.heap.size, 1, none⟩ = some (.slice (some ⟨b, off, none⟩) an ac) := fun p => (p.h.cell (p := ⟨w.heap.size, 1, none⟩) (World.block_lt_of_cell? wr _ k1)).trans k1
          have p2 : ∀ p : Kp wr, p.W.cell? ⟨b, off + j * 2, none⟩ = some (.int .i64 fL) := fun p => (p.h.cell (p := ⟨b, off + j * 2, none⟩) (World.block_lt_of_cell? wr _ c0)).trans c0
          have p3 : ∀ p : Kp wr, p.W.cell? ⟨b, off + j * 2 + 1, none⟩ = some (.int .i64 fN) := fun p => (p.h.cell (p := ⟨b, off + j * 2 + 1, none⟩) (World.block_lt_of_cell? wr _ c1)).trans c1
          have cK : Hid (∀ (p : Kp wr) (n : Int) (s : ByteArray), NumS n s → Calls Try.prog 38 #[.int .u64 n] p.W fun e w'' => e = .returned (.string s) ∧ ∃ q : Kp wr, w'' = q.W) := hide fun p n s h => kp_call (by rw [← h.2.2]; exact refnum_any p.W _ h.1 h.2.1)
          have hadd1 : ∀ W, (Op.stringOp .add sk t1).run Try.prog W = .ok (.string (sk ++ t1)) W := fun W => run_string_add_sum W _ _ (by omega)
          have hadd2 : ∀ W, (Op.stringOp .add (sk ++ t1) t2).run Try.prog W = .ok (.string (sk ++ t1 ++ t2)) W := fun W => run_string_add_sum W _ _ (by rw [ByteArray.size_append]; omega)
          have hne : Nonempty (Kp wr) := ⟨⟨_, Below.refl _ _⟩⟩
          clear hf hfw c0 c1
          go_wp2_with fail
          clear k1
          refine wp_region_kept (by kernel_rfl) (by kernel_rfl) ?_
          repeat (first
            | go_big_quiet_step (first | (go_at_call 38; exact cK.out _ _ _ (by assumption)))
            | fail)
          refine wpQuiet_nil ?_
          intro w4 hw'
          have hb4 : Below wr.heap.size wr w4 := by
            obtain ⟨⟨w3', hb3⟩, hw''⟩ := hw'
            rw [hw'']; exact hb3
          have HB4 := hide (hbel.out.trans (hb4.mono (HBW.out wr hbel.out).2))
          have HSK : Hid (sk ++ t1 ++ t2 = strOfNums (pre ++ fbs (a.take (j + 1)))) := hide (by rw [hsk.out, ← HT1.out, ← HT2.out, str_app, str_app, HFT.out, List.append_assoc, List.append_assoc])
          have HSL := hide (show (sk ++ t1 ++ t2).size ≤ 420 + 20 * (j + 1) from by rw [ByteArray.size_append, ByteArray.size_append]; omega)
          clear hw' hne p1 p2 p3 cK hadd1 hadd2 hb4 ht1 ht2
          go_wp2_with fail
          go_roundw
          case rel => exact ⟨j + 1, _, by omega, by go_num, rfl, HSL.out, HSK, HB4⟩
          case measure => simp [intOf]; omega
        · obtain rfl : j = an := by omega
          have hsk2 := hsk.out
          rw [List.take_of_length_le (by omega)] at hsk2
          have HSK := hide hsk2
          have HB6 := hide hbel.out
          obtain ⟨t1, ht1, ht1l⟩ := nums_of lg (by omega) (by omega)
          obtain ⟨t2, ht2, ht2l⟩ := nums_of fl (by omega) (by omega)
          obtain ⟨t3, ht3, ht3l⟩ := nums_of ct (by omega) (by omega)
          obtain ⟨t4, ht4, ht4l⟩ := nums_of at9 (by omega) (by omega)
          obtain ⟨t5, ht5, ht5l⟩ := nums_of ls (by omega) (by omega)
          have kk := hide (hK.out _ hbel.out)
          have p2 : ∀ p : Kp wr, p.W.cell? ⟨w.heap.size, 2, none⟩ = some (.int .i64 lg) := fun p => (kk.out.below p.h kk.out.lt).cell rfl
          have p3 : ∀ p : Kp wr, p.W.cell? ⟨w.heap.size, 3, none⟩ = some (.int .u64 fl) := fun p => (kk.out.below p.h kk.out.lt).cell rfl
          have p4 : ∀ p : Kp wr, p.W.cell? ⟨w.heap.size, 4, none⟩ = some (.int .u64 ct) := fun p => (kk.out.below p.h kk.out.lt).cell rfl
          have p5 : ∀ p : Kp wr, p.W.cell? ⟨w.heap.size, 5, none⟩ = some (.int .u64 at9) := fun p => (kk.out.below p.h kk.out.lt).cell rfl
          have p6 : ∀ p : Kp wr, p.W.cell? ⟨w.heap.size, 6, none⟩ = some (.int .u64 ls) := fun p => (kk.out.below p.h kk.out.lt).cell rfl
          have cK : Hid (∀ (p : Kp wr) (n : Int) (s : ByteArray), NumS n s → Calls Try.prog 38 #[.int .u64 n] p.W fun e w'' => e = .returned (.string s) ∧ ∃ q : Kp wr, w'' = q.W) := hide fun p n s h => kp_call (by rw [← h.2.2]; exact refnum_any p.W _ h.1 h.2.1)
          have hadd1 : ∀ W, (Op.stringOp .add sk t1).run Try.prog W = .ok (.string (sk ++ t1)) W := fun W => run_string_add_sum W _ _ (by omega)
          have hadd2 : ∀ W, (Op.stringOp .add (sk ++ t1) t2).run Try.prog W = .ok (.string (sk ++ t1 ++ t2)) W := fun W => run_string_add_sum W _ _ (by simp only [ByteArray.size_append]; omega)
          have hadd3 : ∀ W, (Op.stringOp .add (sk ++ t1 ++ t2) t3).run Try.prog W = .ok (.string (sk ++ t1 ++ t2 ++ t3)) W := fun W => run_string_add_sum W _ _ (by simp only [ByteArray.size_append]; omega)
          have hadd4 : ∀ W, (Op.stringOp .add (sk ++ t1 ++ t2 ++ t3) t4).run Try.prog W = .ok (.string (sk ++ t1 ++ t2 ++ t3 ++ t4)) W := fun W => run_string_add_sum W _ _ (by simp only [ByteArray.size_append]; omega)
          have hadd5 : ∀ W, (Op.stringOp .add (sk ++ t1 ++ t2 ++ t3 ++ t4) t5).run Try.prog W = .ok (.string (sk ++ t1 ++ t2 ++ t3 ++ t4 ++ t5)) W := fun W => run_string_add_sum W _ _ (by simp only [ByteArray.size_append]; omega)
          have hne : Nonempty (Kp wr) := ⟨⟨_, Below.refl _ _⟩⟩
          have HX : Hid (sk ++ t1 ++ t2 ++ t3 ++ t4 ++ t5 = strOfNums R) := hide (by rw [hsk2, ← ht1.2.2, ← ht2.2.2, ← ht3.2.2, ← ht4.2.2, ← ht5.2.2]; simp only [str_app]; rw [HRR.out]; simp [rest])
          have HRB := hide (show ByteL R from by
            rw [HRR.out]
            refine bytel_app ?_ (bytel_app (fbs_range a HP4.out) ?_)
            · exact HPR.out
            · have := rows_range [lg, fl, ct, at9, ls] (urange_of fun z hz => by simp at hz; omega) 5
              rw [rows_all _ 5 (by simp)] at this
              exact this)
          clear hsk hsk2 hbel
          go_wp2_with fail
          clear k1
          refine wp_region_kept (by kernel_rfl) (by kernel_rfl) ?_
          repeat (first
            | go_big_quiet_step (first | (go_at_call 38; exact cK.out _ _ _ (by assumption)))
            | fail)
          refine wpQuiet_nil ?_
          intro w4 hw'
          have hb4 : Below wr.heap.size wr w4 := by
            obtain ⟨⟨w3', hb3⟩, hw''⟩ := hw'
            rw [hw'']; exact hb3
          have B4 := hide ((HBW.out wr HB6.out).1.trans (hb4.mono (HBW.out wr HB6.out).1.size))
          clear hw' hne p2 p3 p4 p5 p6 cK hadd1 hadd2 hadd3 hadd4 hadd5 hb4 ht1 ht2 ht3 ht4 ht5 kk
          generalize sk ++ t1 ++ t2 ++ t3 ++ t4 ++ t5 = sx at *
          have CF := hide (refframe_any 6 sx R w4 (by omega) (by omega) HX.out (by omega) HRB.out)
          go_wp2_with fail
          refine CF.out.mono ?_
          rintro e w5 ⟨rfl, hb5⟩
          have B5 := hide (B4.out.trans (hb5.mono B4.out.size))
          clear CF hb5
          go_wp2
          go_ret
          exact ⟨rfl, B5.out⟩

end Go.Proofs.Ytgopcaemgcnapaa.Clep
