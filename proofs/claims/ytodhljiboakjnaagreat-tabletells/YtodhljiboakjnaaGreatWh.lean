/- What the statement TableTells does when called: true. No conditions but that the arguments lie in memory. -/
import Derived.Test.YtodhljiboakjnaaGreatWg
import Derived.BigRegion
import Derived.Deep.RegionHeldLaw
namespace Go.Proofs.YtodhljiboakjnaaGreat.Clep
open Go.RowKit
set_option linter.unusedVariables false

set_option maxRecDepth 100000 in
set_option maxHeartbeats 16000000 in
theorem tells_walk (a0 : Option Addr) (len0 cap0 : Nat) (l : List It) (x f t : It) (w : World) (h0 : Is w a0 len0 cap0 l) (hl0 : len0 ≤ 9223372036854775807) (hc0 : cap0 ≤ 9223372036854775807) (hx : x.wf) (hf : f.wf) (ht : t.wf) :
    Calls Tryz.prog 3 #[.slice a0 len0 cap0, .agg #[Value.int IntKind.i64 x.S, Value.int IntKind.i64 x.K, Value.int IntKind.u64 x.T, Value.int IntKind.u64 x.V, Value.int IntKind.i64 x.X], .agg #[Value.int IntKind.i64 f.S, Value.int IntKind.i64 f.K, Value.int IntKind.u64 f.T, Value.int IntKind.u64 f.V, Value.int IntKind.i64 f.X], .agg #[Value.int IntKind.i64 t.S, Value.int IntKind.i64 t.K, Value.int IntKind.u64 t.T, Value.int IntKind.u64 t.V, Value.int IntKind.i64 t.X]] w fun e w' => e = .returned (.bool true) ∧ Below w.heap.size w w' := by
  have A0 := (Below.refl _ w).alloc (Nat.le_refl _) (Obj.cells #[Value.int IntKind.i64 x.S, Value.int IntKind.i64 x.K, Value.int IntKind.u64 x.T, Value.int IntKind.u64 x.V, Value.int IntKind.i64 x.X] 25)
  have X0 := vi_new w x.S x.K x.T x.V x.X
  obtain ⟨w0, hw0⟩ : ∃ w0, w0 = w.alloc (Obj.cells #[Value.int IntKind.i64 x.S, Value.int IntKind.i64 x.K, Value.int IntKind.u64 x.T, Value.int IntKind.u64 x.V, Value.int IntKind.i64 x.X] 25) := ⟨_, rfl⟩
  have hs0 : w0.heap.size = w.heap.size + 1 := by rw [hw0]; simp
  rw [← hw0] at A0 X0
  have A1 := (Below.refl _ w0).alloc (Nat.le_refl _) (Obj.cells #[Value.int IntKind.i64 f.S, Value.int IntKind.i64 f.K, Value.int IntKind.u64 f.T, Value.int IntKind.u64 f.V, Value.int IntKind.i64 f.X] 25)
  have X1 := vi_new w0 f.S f.K f.T f.V f.X
  obtain ⟨w1, hw1⟩ : ∃ w1, w1 = w0.alloc (Obj.cells #[Value.int IntKind.i64 f.S, Value.int IntKind.i64 f.K, Value.int IntKind.u64 f.T, Value.int IntKind.u64 f.V, Value.int IntKind.i64 f.X] 25) := ⟨_, rfl⟩
  have hs1 : w1.heap.size = w.heap.size + 1 + 1 := by rw [hw1]; simp [hs0]
  rw [← hw1] at A1 X1
  rw [hs0] at X1
  have A2 := (Below.refl _ w1).alloc (Nat.le_refl _) (Obj.cells #[Value.int IntKind.i64 t.S, Value.int IntKind.i64 t.K, Value.int IntKind.u64 t.T, Value.int IntKind.u64 t.V, Value.int IntKind.i64 t.X] 25)
  have X2 := vi_new w1 t.S t.K t.T t.V t.X
  obtain ⟨w2, hw2⟩ : ∃ w2, w2 = w1.alloc (Obj.cells #[Value.int IntKind.i64 t.S, Value.int IntKind.i64 t.K, Value.int IntKind.u64 t.T, Value.int IntKind.u64 t.V, Value.int IntKind.i64 t.X] 25) := ⟨_, rfl⟩
  rw [← hw2] at A2 X2
  rw [hs1] at X2
  have AA := hide (bmore (bmore A0 A1) A2)
  have VX := hide ((X0.keep A1).keep A2)
  have VF := hide (X1.keep A2)
  have VT := hide X2
  have H0 := hide (fun W (hW : Below w.heap.size w W) => h0.below hW (Nat.le_refl _))
  have HWX := hide hx
  by_cases hgt : 150 < len0
  · clear h0 A0 A1 A2 X0 X1 X2 VX VF VT hs0 hs1
    go_enter Tryz.func3, Tryz.ntmps3
    go_wp2_with fail
    rw [← hw0, ← hw1, ← hw2]
    refine (qawake_any _).mono ?_
    rintro e w9 ⟨rfl, hb9⟩
    go_wp2
    go_ret
    exact ⟨rfl, bmore AA.out hb9⟩
  have hle : len0 ≤ 150 := by omega
  have hRi := hide (rising_any a0 len0 cap0 l w2 (H0.out _ AA.out) (by omega) hc0)
  have HT := hide (show TOk (qL l) from ⟨qL_rise l, qL_ok l, qL_all It.wf l h0.2.2.1, Nat.le_trans (qL_len l) (by rw [h0.1]; omega)⟩)
  have HMl := hide (fun W (hW : Below w.heap.size w W) => make_any a0 len0 cap0 l W (H0.out W hW) hl0 hc0)
  have HMy := hide (fun W (hW : Below w.heap.size w W) => tablemay_any a0 len0 cap0 l W (H0.out W hW) hl0)
  obtain ⟨et, het⟩ : ∃ et, tme l = et := ⟨_, rfl⟩
  rw [het] at HMl HMy
  generalize qL l = q at *
  clear h0 A0 A1 A2 X0 X1 X2 hs0 hs1 hx het
  go_enter Tryz.func3, Tryz.ntmps3
  go_wp2_with fail
  rw [← hw0, ← hw1, ← hw2]
  clear hw0 hw1 hw2
  obtain ⟨R, hR⟩ : ∃ R, R = w.heap.size := ⟨_, rfl⟩
  have HR := hide hR
  rw [← hR] at VX VF VT ⊢
  clear hR
  rw [show R + 1 + 1 = R + 2 from rfl] at VT ⊢
  refine hRi.out.mono ?_
  rintro e w3 ⟨aq, cq, rfl, hIq, hcq, hb3, -⟩
  obtain ⟨nq, hnq⟩ : ∃ nq, q.length = nq := ⟨_, rfl⟩
  rw [hnq] at hIq ⊢
  have HNQ := hide hnq
  have hnm : nq ≤ 2000 := by rw [← hnq]; exact HT.out.len
  have B3 := hide (bmore AA.out hb3)
  have I3 := hide hIq
  have X3 := hide (VX.out.keep hb3)
  have F3 := hide (VF.out.keep hb3)
  have T3 := hide (VT.out.keep hb3)
  clear hRi hIq hb3 hnq VX VF VT
  go_wp2_with fail
  refine (HMl.out _ B3.out).mono ?_
  rintro e w4 ⟨v4, rfl, hb4⟩
  have B4 := hide (bmore B3.out hb4)
  have I4 := hide (I3.out.below hb4 (Nat.le_refl _))
  have X4 := hide (X3.out.keep hb4)
  have F4 := hide (F3.out.keep hb4)
  have T4 := hide (T3.out.keep hb4)
  have hMk := hide (make_ok aq nq cq q w4 I4.out HT.out hcq)
  clear hb4 HMl X3 F3 T3 B3 I3
  go_wp2_with fail
  refine hMk.out.mono ?_
  rintro e w5 ⟨v5, rfl, ho5, hb5⟩
  obtain ⟨a5, c5, rfl, -, hbs5, -⟩ := own_at0 ho5 (tb_range HT.out)
  have hL5 := (tb_len HT.out).2
  have hRd := tread_any a5 (tb q).length c5 (tb q)
  rw [isT_tb HT.out, bg_tb HT.out] at hRd
  have HRd := hide (fun W (hW : Below w5.heap.size w5 W) => hRd W (hbs5.below hW (Nat.le_refl _)) (by omega))
  have B5 := hide (bmore B4.out hb5)
  have I5 := hide (I4.out.below hb5 (Nat.le_refl _))
  have X5 := hide (X4.out.keep hb5)
  have F5 := hide (F4.out.keep hb5)
  have T5 := hide (T4.out.keep hb5)
  obtain ⟨SS, hSS⟩ : ∃ SS, strOfNums (tb q) = SS := ⟨_, rfl⟩
  have hcv : ∀ p : Kp w5, (convert 28 9 (.slice a5 (tb q).length c5)).run Tryz.prog p.W = .ok (.string SS) p.W := fun p => by
    have := conv_bs (hbs5.below p.h (Nat.le_refl _))
    rw [hSS] at this; exact this
  have cM : Hid (∀ p : Kp w5, Calls Tryz.prog 12 #[.slice a0 len0 cap0] p.W fun e w'' => e = .returned (.int .i64 et) ∧ ∃ p' : Kp w5, w'' = p'.W) := hide fun p => kp_call (HMy.out _ (bmore B5.out p.h))
  have cT : Hid (∀ p : Kp w5, Calls Tryz.prog 13 #[.slice aq nq cq] p.W fun e w'' => e = .returned (.string SS) ∧ ∃ p' : Kp w5, w'' = p'.W) := hide fun p => kp_call (by rw [← hSS]; exact reftab_any aq nq cq q p.W (I5.out.below p.h (Nat.le_refl _)) HT.out hcq)
  have hss : (SS.toList == SS.toList) = true := by simp
  have hee : (et == et) = true := by simp
  have hne : Nonempty (Kp w5) := ⟨⟨_, Below.refl _ _⟩⟩
  generalize (tb q).length = L at *
  clear hMk ho5 hbs5 hb5 hRd hL5 hSS X4 F4 T4 B4 I4 HMy
  go_wp2_with fail
  refine wp_region_kept (by kernel_rfl) (by kernel_rfl) ?_
  repeat (first
    | go_big_quiet_step (first | (go_at_call 12; exact cM.out _) | (go_at_call 13; exact cT.out _))
    | fail)
  refine wpQuiet_nil ?_
  intro w6 hw'
  have hb6 : Hid (Below w5.heap.size w5 w6) := by
    obtain ⟨⟨w7', hb7⟩, hw''⟩ := hw'
    rw [hw'']; exact hide hb7
  have B6 := hide (bmore B5.out hb6.out)
  have I6 := hide (I5.out.below hb6.out (Nat.le_refl _))
  have X6 := hide (X5.out.keep hb6.out)
  have F6 := hide (F5.out.keep hb6.out)
  have T6 := hide (T5.out.keep hb6.out)
  have HRd6 := hide (HRd.out _ hb6.out)
  clear hw' hne cM cT hcv hss hee X5 F5 T5 B5 I5 hb6 HRd
  go_wp2_with fail
  refine HRd6.out.mono ?_
  rintro e w7 ⟨hb7, ⟨hno, -⟩ | ⟨-, M, rfl, ht7, hM7⟩⟩
  · cases hno
  have TW7 : Hid (Tw w w7 R M x f t aq nq cq q) := hide ⟨bmore B6.out hb7, X6.out.keep hb7, F6.out.keep hb7, T6.out.keep hb7, I6.out.below hb7 (Nat.le_refl _), ⟨_, _, ht7⟩, Nat.le_trans B6.out.size hM7, by have := X6.out.lt; omega, by have := F6.out.lt; omega, by have := T6.out.lt; omega, fun h0 y hy => by have := I6.out.lt h0 y hy; omega⟩
  have hLn := hide (show Calls Tryz.prog 15 #[.pointer (some ⟨M, 0, none⟩)] w7 fun e w' => e = .returned (.int .i64 (nq : Int)) ∧ w' = w7 from by
    have := tlen_any w7 M 0 _ q ht7
    rw [HNQ.out] at this; exact this)
  have hAl := hide (show Calls Tryz.prog 17 #[.pointer (some ⟨M, 0, none⟩)] w7 fun e w' => ∃ a c, e = .returned (.slice a nq c) ∧ Is w' a nq c q ∧ c ≤ 9223372036854775807 ∧ (∃ B d, Tb w' M B d q) ∧ Ch (fun b => b = M) w7 w' from by
    have := tall_any w7 M 0 _ q ht7
    rw [HNQ.out] at this
    exact this.mono fun e w' ⟨a, c, r1, r2, r3, r4, r5⟩ => ⟨a, c, r1, r2, r3, ⟨_, _, r4⟩, r5⟩)
  clear HRd6 hb7 ht7 hM7 B6 I6 X6 F6 T6
  go_wp2_with fail
  refine hLn.out.mono ?_
  rintro e w7' ⟨rfl, rfl⟩
  clear hLn
  go_wp2_with fail
  refine hAl.out.mono ?_
  rintro e w8 ⟨a8, c8, rfl, hI8, hc8, ht8, hch8⟩
  have TW8 := hide (TW7.out.ch hch8 ht8)
  have hEq := hide ((refequal_any a8 aq nq c8 nq cq q q w8 hI8 TW8.out.iq (by omega) (by omega)).mono fun e w' ⟨o, r1, r2, r3⟩ => show e = Ending.returned (.bool true) ∧ Below w8.heap.size w8 w' from ⟨by rw [r1, r2.2 rfl], r3⟩)
  clear hAl hI8 hc8 ht8 hch8 TW7
  go_wp2_with fail
  refine hEq.out.mono ?_
  rintro e w9 ⟨rfl, hb9⟩
  have TW9 := hide (TW8.out.keep hb9)
  obtain ⟨B9, d9, ht9⟩ := TW9.out.tb
  have hFi := hide ((tfirst_any w9 M d9 B9 q ht9).mono fun e w' ⟨r1, r2, r3⟩ => show e = Ending.returned (.tuple #[.agg (cv (q.head?.getD oz)).toArray, .bool q.head?.isSome]) ∧ (∃ B d, Tb w' M B d q) ∧ Ch (fun b => b = M) w9 w' from ⟨r1, ⟨_, _, r2⟩, r3⟩)
  obtain ⟨fi1, hfi1⟩ : ∃ y, q.head?.getD oz = y := ⟨_, rfl⟩
  obtain ⟨la1, hla1⟩ : ∃ y, q.getLast?.getD oz = y := ⟨_, rfl⟩
  obtain ⟨o1, ho1⟩ : ∃ o, q.head?.isSome = o := ⟨_, rfl⟩
  have ho2 : q.getLast?.isSome = o1 := by rw [← ho1]; cases q <;> simp
  rw [hfi1, ho1] at hFi
  rw [show (cv fi1).toArray = #[Value.int IntKind.i64 fi1.S, Value.int IntKind.i64 fi1.K, Value.int IntKind.u64 fi1.T, Value.int IntKind.u64 fi1.V, Value.int IntKind.i64 fi1.X] from rfl] at hFi
  have HFI := hide hfi1
  have HLA := hide hla1
  have HO1 := hide ho1
  clear hEq hb9 ht9 TW8
  go_wp2_with fail
  refine hFi.out.mono ?_
  rintro e wa ⟨rfl, hta, hca⟩
  have TWa := hide (TW9.out.ch hca hta)
  have Ab := (Below.refl _ wa).alloc (Nat.le_refl _) (Obj.cells #[Value.int IntKind.i64 fi1.S, Value.int IntKind.i64 fi1.K, Value.int IntKind.u64 fi1.T, Value.int IntKind.u64 fi1.V, Value.int IntKind.i64 fi1.X] 25)
  have Xb := vi_new wa fi1.S fi1.K fi1.T fi1.V fi1.X
  obtain ⟨wb, hwb⟩ : ∃ wb, wb = wa.alloc (Obj.cells #[Value.int IntKind.i64 fi1.S, Value.int IntKind.i64 fi1.K, Value.int IntKind.u64 fi1.T, Value.int IntKind.u64 fi1.V, Value.int IntKind.i64 fi1.X] 25) := ⟨_, rfl⟩
  rw [← hwb] at Ab Xb
  have TWb := hide (TWa.out.keep Ab)
  have XB := hide Xb
  obtain ⟨Bb, db, htb⟩ := TWb.out.tb
  have hLa := hide ((tlast_any wb M db Bb q htb).mono fun e w' ⟨r1, r2, r3⟩ => show e = Ending.returned (.tuple #[.agg (cv (q.getLast?.getD oz)).toArray, .bool q.getLast?.isSome]) ∧ (∃ B d, Tb w' M B d q) ∧ Ch (fun b => b = M) wb w' from ⟨r1, ⟨_, _, r2⟩, r3⟩)
  rw [hla1, ho2] at hLa
  rw [show (cv la1).toArray = #[Value.int IntKind.i64 la1.S, Value.int IntKind.i64 la1.K, Value.int IntKind.u64 la1.T, Value.int IntKind.u64 la1.V, Value.int IntKind.i64 la1.X] from rfl] at hLa
  have HRbM : Hid (wa.heap.size ≠ M) := hide (by obtain ⟨B, d, r⟩ := TWa.out.tb; have := r.lt M r.base; omega)
  clear hFi hta hca TW9 Ab Xb htb hfi1 hla1 ho1 ho2
  go_wp2_with fail
  rw [← hwb]
  clear hwb
  obtain ⟨Rb, hRb⟩ : ∃ Rb, Rb = wa.heap.size := ⟨_, rfl⟩
  rw [← hRb] at XB HRbM ⊢
  clear hRb
  refine hLa.out.mono ?_
  rintro e wc ⟨rfl, htc, hcc⟩
  have TWc := hide (TWb.out.ch hcc htc)
  have XBc := hide (XB.out.ch hcc HRbM.out)
  have Ad := (Below.refl _ wc).alloc (Nat.le_refl _) (Obj.cells #[Value.int IntKind.i64 la1.S, Value.int IntKind.i64 la1.K, Value.int IntKind.u64 la1.T, Value.int IntKind.u64 la1.V, Value.int IntKind.i64 la1.X] 25)
  have Xd := vi_new wc la1.S la1.K la1.T la1.V la1.X
  obtain ⟨wd, hwd⟩ : ∃ wd, wd = wc.alloc (Obj.cells #[Value.int IntKind.i64 la1.S, Value.int IntKind.i64 la1.K, Value.int IntKind.u64 la1.T, Value.int IntKind.u64 la1.V, Value.int IntKind.i64 la1.X] 25) := ⟨_, rfl⟩
  rw [← hwd] at Ad Xd
  have TWd := hide (TWc.out.keep Ad)
  have XBd := hide (XBc.out.keep Ad)
  have XDd := hide Xd
  clear hLa htc hcc TWa TWb TWc XB XBc Ad Xd
  obtain ⟨Rd, hRd2⟩ : ∃ Rd, Rd = wc.heap.size := ⟨_, rfl⟩
  rw [← hRd2] at XDd
  go_wp2_with fail
  rw [← hwd, ← hRd2]
  clear hwd hRd2
  have hneD : Nonempty (Kp wd) := ⟨⟨_, Below.refl _ _⟩⟩
  have hcase : (nq = 0 ∧ o1 = false) ∨ (0 < nq ∧ o1 = true ∧ q[0]? = some fi1 ∧ q[nq - 1]? = some la1) := by
    have h1 := HNQ.out
    have h2 := HFI.out
    have h3 := HLA.out
    have h4 := HO1.out
    cases q with
    | nil => exact .inl ⟨by rw [← h1]; rfl, by rw [← h4]; rfl⟩
    | cons y r =>
      refine .inr ⟨by rw [← h1]; simp, by rw [← h4]; rfl, by rw [← h2]; rfl, ?_⟩
      rw [← h3, List.getLast?_eq_getElem?, ← h1]
      rw [List.getElem?_eq_getElem (by simp)]
      rfl
  rcases hcase with ⟨hz0, hz1⟩ | ⟨hz0, hz1, hz2, hz3⟩
  case inl =>
    subst hz1
    subst hz0
    go_wp2_with fail
    refine wp_region_kept (by kernel_rfl) (by kernel_rfl) ?_
    repeat (first | go_big_quiet_step (fail) | fail)
    refine wpQuiet_nil ?_
    intro we hw'
    have hbe : Hid (Below wd.heap.size wd we) := by
      obtain ⟨⟨w7', hb7⟩, hw''⟩ := hw'
      rw [hw'']; exact hide hb7
    have TWe := hide (TWd.out.keep hbe.out)
    clear hw' hneD TWd XBd XDd hbe
    have Ag := (Below.refl _ we).alloc (Nat.le_refl _) (Obj.cells #[Value.int IntKind.i64 0, Value.int IntKind.i64 0, Value.int IntKind.u64 0, Value.int IntKind.u64 0, Value.int IntKind.i64 0] 25)
    have Vg := vx_new we 0 0 0 0 0
    obtain ⟨wg, hwg⟩ : ∃ wg, wg = we.alloc (Obj.cells #[Value.int IntKind.i64 0, Value.int IntKind.i64 0, Value.int IntKind.u64 0, Value.int IntKind.u64 0, Value.int IntKind.i64 0] 25) := ⟨_, rfl⟩
    rw [← hwg] at Ag Vg
    have AG := hide Ag
    have VG := hide Vg
    clear Ag Vg
    go_wp2_with fail
    rw [← hwg]
    clear hwg
    obtain ⟨Rw, hRw⟩ : ∃ Rw, Rw = we.heap.size := ⟨_, rfl⟩
    have HRwe : Hid (we.heap.size ≤ Rw) := hide (by omega)
    have HRweq := hide hRw
    rw [← hRw] at VG ⊢
    clear hRw
    have HRw : Hid (Rw < wg.heap.size) := hide VG.out.lt
    have Hge : Hid (we.heap.size ≤ wg.heap.size) := hide AG.out.size
    go_loopw [20, 22, 23] (fun v b i wr => ∃ (j : Nat) (ob : Bool), j ≤ 0 ∧ i = .int .i64 j ∧ b = .bool ob ∧ Hid (ob = (fd (q.take j) x).isSome) ∧ Hid (OwnI wr wg.heap.size v (rg f t (q.take j))) ∧ Hid (∃ z : It, z = (fd (q.take j) x).getD oz ∧ Vx wr Rw z.S z.K z.T z.V z.X) ∧ Hid (Below we.heap.size we wr) ∧ Hid (wg.heap.size ≤ wr.heap.size)) (fun _ _ i _ => 0 - (intOf i).toNat)
    case atStart => exact ⟨0, false, by omega, rfl, rfl, hide (by simp [fd]), hide (by simpa [rg] using ownI_nil _ _), hide ⟨oz, by simp [fd], VG.out⟩, AG, hide (Nat.le_refl _)⟩
    case round =>
      obtain ⟨j, ob, hj, rfl, rfl, hob, hown, hwant, wrbel, Hgr⟩ := hrel
      obtain ⟨z, hz, hvz⟩ := hwant.out
      have hqt : Hid (q.take j = q) := hide (List.take_of_length_le (by rw [HNQ.out]; omega))
      have hlt : ¬ ((j : Int) < 0) := by omega
      rw [hqt.out] at hob hown hz
      have TWr := hide (TWe.out.keep wrbel.out)
      obtain ⟨Br, dr, htr⟩ := TWr.out.tb
      have HMlt : Hid (M < we.heap.size) := hide (by obtain ⟨B, d, r⟩ := TWe.out.tb; exact r.lt M r.base)
      have hG := hide ((tget_any wr M dr Br q htr x HWX.out).mono fun e w' ⟨r1, ⟨d, r2⟩, r3⟩ => show e = Ending.returned (.tuple #[.agg #[Value.int IntKind.i64 z.S, Value.int IntKind.i64 z.K, Value.int IntKind.u64 z.T, Value.int IntKind.u64 z.V, Value.int IntKind.i64 z.X], .bool ob]) ∧ (∃ B d, Tb w' M B d q) ∧ Ch (fun b => b = M) wr w' from ⟨by rw [r1, ← hz, ← hob.out]; rfl, ⟨_, d, r2⟩, r3⟩)
      have gx := TWr.out.vx
      unfold Vi at gx
      simp only [Nat.zero_add] at gx
      obtain ⟨k0, k1, k2, k3, k4⟩ := gx
      have VR := hide hvz
      clear htr hwant hz hvz
      go_wp2_with fail
      refine hG.out.mono ?_
      rintro e wh ⟨rfl, hth, hch⟩
      have TWh := hide (TWr.out.ch hch hth)
      have VH := hide (vx_ch VR.out hch (by have := HMlt.out; have := HRwe.out; omega))
      have OH := hide (ownI_grown hown.out (ch_gb hch) (fun k hk => by cases hk; have := HMlt.out; have := Hge.out; omega))
      have Ai := (Below.refl _ wh).alloc (Nat.le_refl _) (Obj.cells #[Value.int IntKind.i64 z.S, Value.int IntKind.i64 z.K, Value.int IntKind.u64 z.T, Value.int IntKind.u64 z.V, Value.int IntKind.i64 z.X] 25)
      obtain ⟨wi, hwi⟩ : ∃ wi, wi = wh.alloc (Obj.cells #[Value.int IntKind.i64 z.S, Value.int IntKind.i64 z.K, Value.int IntKind.u64 z.T, Value.int IntKind.u64 z.V, Value.int IntKind.i64 z.X] 25) := ⟨_, rfl⟩
      rw [← hwi] at Ai
      have TWi := hide (TWh.out.keep Ai)
      have OI := hide (ownI_keep OH.out Ai)
      obtain ⟨Bi, di, hti⟩ := TWi.out.tb
      obtain ⟨ain, cin, hu20, hcin, hIin, hbin⟩ := ownI_is OI.out (fun y hy => HT.out.wf y (List.mem_filter.1 hy).1)
      subst hu20
      obtain ⟨nin, hnin⟩ : ∃ nin, (rg f t q).length = nin := ⟨_, rfl⟩
      rw [hnin] at hIin ⊢
      have HII := hide (fun W (hW : Ch (fun b => b = M) wi W) => hIin.ch hW (fun h0 y hy e => by have := hbin y hy; have := HMlt.out; have := Hge.out; omega))
      have hRg := hide ((trange_any wi M di Bi q hti f t).mono fun e w' ⟨a, n, c, r1, r2, r3, r4, r5⟩ => show ∃ a n c, e = Ending.returned (.slice a n c) ∧ Is w' a n c (rg f t q) ∧ c ≤ 9223372036854775807 ∧ Ch (fun b => b = M) wi w' from ⟨a, n, c, r1, r2, r3, r5⟩)
      have gx := VH.out.1
      unfold Vi at gx
      simp only [Nat.zero_add] at gx
      obtain ⟨y0, y1, y2, y3, y4⟩ := gx
      have gx := TWh.out.vf
      unfold Vi at gx
      simp only [Nat.zero_add] at gx
      obtain ⟨e0, e1, e2, e3, e4⟩ := gx
      have gx := TWh.out.vt
      unfold Vi at gx
      simp only [Nat.zero_add] at gx
      obtain ⟨g0, g1, g2, g3, g4⟩ := gx
      have hl1 : Rw < wh.heap.size := VH.out.lt
      have hl2 : R + 1 < wh.heap.size := TWh.out.vf.lt
      have hl3 : R + 2 < wh.heap.size := TWh.out.vt.lt
      have hbb : (ob == ob) = true := by simp
      have hni : nin ≤ 9223372036854775807 := Nat.le_trans hIin.2.1.1 hcin
      clear hG hth hch Ai hti hIin hbin k0 k1 k2 k3 k4 hnin
      go_wp2_with fail
      rw [← hwi]
      clear hwi hl1 hl2 hl3 y0 y1 y2 y3 y4 e0 e1 e2 e3 e4 g0 g1 g2 g3 g4
      refine hRg.out.mono ?_
      rintro e wj ⟨aj, nj, cj, rfl, hIj, hcj, hchj⟩
      have TWj := hide (show Below w.heap.size w wj from Clep.Below.ch TWi.out.bel hchj TWi.out.bel.size (fun i hi => by rw [hi]; exact TWi.out.nM.1))
      have hEq := hide ((refequal_any aj ain nj cj nin cin (rg f t q) (rg f t q) wj hIj (HII.out wj hchj) (Nat.le_trans hIj.2.1.1 hcj) hni).mono fun e w' ⟨o, r1, r2, r3⟩ => show e = Ending.returned (.bool true) ∧ Below wj.heap.size wj w' from ⟨by rw [r1, r2.2 rfl], r3⟩)
      clear hRg hIj hcj hchj
      go_wp2_with fail
      refine hEq.out.mono ?_
      rintro e wk ⟨rfl, hbk⟩
      have Bk := hide (bmore TWj.out hbk)
      clear hEq hbk
      go_wp2_with (first | (go_at_call 9; refine (qawake_any _).mono ?_; rintro e wl ⟨rfl, hbl⟩))
      go_ret
      exact ⟨rfl, bmore Bk.out hbl⟩
  case inr =>
    subst hz1
    obtain ⟨b9, o9, ea9, hc9⟩ := TWd.out.iq.2.2.2 hz0
    have hq0 := hc9 0 fi1 hz2
    have hq1 := hc9 (nq - 1) la1 hz3
    obtain ⟨m9, hm9⟩ : ∃ m9, nq - 1 = m9 := ⟨_, rfl⟩
    have hm9i : (nq : Int) - 1 = (m9 : Int) := by omega
    have hm9w : IntKind.i64.wrap (m9 : Int) = (m9 : Int) := by simp [IntKind.wrap, IntKind.bits, IntKind.signed]; omega
    have hm9l : (m9 : Int) < (nq : Int) := by omega
    have hz0i : (0 : Int) < (nq : Int) := by omega
    rw [hm9] at hq1
    subst ea9
    unfold Vt at hq0 hq1
    rw [Nat.zero_mul, Nat.add_zero] at hq0
    have ii0 : ∀ p : Kp wd, p.W.cell? ⟨b9, o9, none⟩ = some (.int .i64 fi1.S) := fun p => by simpa using (hq0.keep p.h).1
    have ii1 : ∀ p : Kp wd, p.W.cell? ⟨b9, o9 + 1, none⟩ = some (.int .i64 fi1.K) := fun p => by simpa using (hq0.keep p.h).2.1
    have ii2 : ∀ p : Kp wd, p.W.cell? ⟨b9, o9 + 2, none⟩ = some (.int .u64 fi1.T) := fun p => by simpa using (hq0.keep p.h).2.2.1
    have ii3 : ∀ p : Kp wd, p.W.cell? ⟨b9, o9 + 3, none⟩ = some (.int .u64 fi1.V) := fun p => by simpa using (hq0.keep p.h).2.2.2.1
    have ii4 : ∀ p : Kp wd, p.W.cell? ⟨b9, o9 + 4, none⟩ = some (.int .i64 fi1.X) := fun p => by simpa using (hq0.keep p.h).2.2.2.2
    have jj0 : ∀ p : Kp wd, p.W.cell? ⟨b9, o9 + m9 * 5, none⟩ = some (.int .i64 la1.S) := fun p => by simpa using (hq1.keep p.h).1
    have jj1 : ∀ p : Kp wd, p.W.cell? ⟨b9, o9 + m9 * 5 + 1, none⟩ = some (.int .i64 la1.K) := fun p => by simpa using (hq1.keep p.h).2.1
    have jj2 : ∀ p : Kp wd, p.W.cell? ⟨b9, o9 + m9 * 5 + 2, none⟩ = some (.int .u64 la1.T) := fun p => by simpa using (hq1.keep p.h).2.2.1
    have jj3 : ∀ p : Kp wd, p.W.cell? ⟨b9, o9 + m9 * 5 + 3, none⟩ = some (.int .u64 la1.V) := fun p => by simpa using (hq1.keep p.h).2.2.2.1
    have jj4 : ∀ p : Kp wd, p.W.cell? ⟨b9, o9 + m9 * 5 + 4, none⟩ = some (.int .i64 la1.X) := fun p => by simpa using (hq1.keep p.h).2.2.2.2
    have kk0 : ∀ p : Kp wd, p.W.cell? ⟨Rb, 0, none⟩ = some (.int .i64 fi1.S) := fun p => by simpa using (XBd.out.keep p.h).1
    have kk1 : ∀ p : Kp wd, p.W.cell? ⟨Rb, 1, none⟩ = some (.int .i64 fi1.K) := fun p => by simpa using (XBd.out.keep p.h).2.1
    have kk2 : ∀ p : Kp wd, p.W.cell? ⟨Rb, 2, none⟩ = some (.int .u64 fi1.T) := fun p => by simpa using (XBd.out.keep p.h).2.2.1
    have kk3 : ∀ p : Kp wd, p.W.cell? ⟨Rb, 3, none⟩ = some (.int .u64 fi1.V) := fun p => by simpa using (XBd.out.keep p.h).2.2.2.1
    have kk4 : ∀ p : Kp wd, p.W.cell? ⟨Rb, 4, none⟩ = some (.int .i64 fi1.X) := fun p => by simpa using (XBd.out.keep p.h).2.2.2.2
    have ll0 : ∀ p : Kp wd, p.W.cell? ⟨Rd, 0, none⟩ = some (.int .i64 la1.S) := fun p => by simpa using (XDd.out.keep p.h).1
    have ll1 : ∀ p : Kp wd, p.W.cell? ⟨Rd, 1, none⟩ = some (.int .i64 la1.K) := fun p => by simpa using (XDd.out.keep p.h).2.1
    have ll2 : ∀ p : Kp wd, p.W.cell? ⟨Rd, 2, none⟩ = some (.int .u64 la1.T) := fun p => by simpa using (XDd.out.keep p.h).2.2.1
    have ll3 : ∀ p : Kp wd, p.W.cell? ⟨Rd, 3, none⟩ = some (.int .u64 la1.V) := fun p => by simpa using (XDd.out.keep p.h).2.2.2.1
    have ll4 : ∀ p : Kp wd, p.W.cell? ⟨Rd, 4, none⟩ = some (.int .i64 la1.X) := fun p => by simpa using (XDd.out.keep p.h).2.2.2.2
    clear hc9 hq0 hq1 hz2 hz3 hm9
    go_wp2_with fail
    refine wp_region_kept (by kernel_rfl) (by kernel_rfl) ?_
    repeat (first | go_big_quiet_step (fail) | fail)
    refine wpQuiet_nil ?_
    intro we hw'
    clear ii0 ii1 ii2 ii3 ii4 jj0 jj1 jj2 jj3 jj4 kk0 kk1 kk2 kk3 kk4 ll0 ll1 ll2 ll3 ll4 hm9i hm9w hm9l hz0i hz0
    generalize (some (⟨b9, o9, none⟩ : Addr)) = aq at *
    have hbe : Hid (Below wd.heap.size wd we) := by
      obtain ⟨⟨w7', hb7⟩, hw''⟩ := hw'
      rw [hw'']; exact hide hb7
    have TWe := hide (TWd.out.keep hbe.out)
    clear hw' hneD TWd XBd XDd hbe
    have Ag := (Below.refl _ we).alloc (Nat.le_refl _) (Obj.cells #[Value.int IntKind.i64 0, Value.int IntKind.i64 0, Value.int IntKind.u64 0, Value.int IntKind.u64 0, Value.int IntKind.i64 0] 25)
    have Vg := vx_new we 0 0 0 0 0
    obtain ⟨wg, hwg⟩ : ∃ wg, wg = we.alloc (Obj.cells #[Value.int IntKind.i64 0, Value.int IntKind.i64 0, Value.int IntKind.u64 0, Value.int IntKind.u64 0, Value.int IntKind.i64 0] 25) := ⟨_, rfl⟩
    rw [← hwg] at Ag Vg
    have AG := hide Ag
    have VG := hide Vg
    clear Ag Vg
    go_wp2_with fail
    rw [← hwg]
    clear hwg
    obtain ⟨Rw, hRw⟩ : ∃ Rw, Rw = we.heap.size := ⟨_, rfl⟩
    have HRwe : Hid (we.heap.size ≤ Rw) := hide (by omega)
    have HRweq := hide hRw
    rw [← hRw] at VG ⊢
    clear hRw
    have HRw : Hid (Rw < wg.heap.size) := hide VG.out.lt
    have Hge : Hid (we.heap.size ≤ wg.heap.size) := hide AG.out.size
    go_loopw [20, 22, 23] (fun v b i wr => ∃ (j : Nat) (ob : Bool), j ≤ nq ∧ i = .int .i64 j ∧ b = .bool ob ∧ Hid (ob = (fd (q.take j) x).isSome) ∧ Hid (OwnI wr wg.heap.size v (rg f t (q.take j))) ∧ Hid (∃ z : It, z = (fd (q.take j) x).getD oz ∧ Vx wr Rw z.S z.K z.T z.V z.X) ∧ Hid (Below we.heap.size we wr) ∧ Hid (wg.heap.size ≤ wr.heap.size)) (fun _ _ i _ => nq - (intOf i).toNat)
    case atStart => exact ⟨0, false, by omega, rfl, rfl, hide (by simp [fd]), hide (by simpa [rg] using ownI_nil _ _), hide ⟨oz, by simp [fd], VG.out⟩, AG, hide (Nat.le_refl _)⟩
    case round =>
      obtain ⟨j, ob, hj, rfl, rfl, hob, hown, hwant, wrbel, Hgr⟩ := hrel
      obtain ⟨z, hz, hvz⟩ := hwant.out
      by_cases hlt : j < nq
      · have TWr := hide (TWe.out.keep wrbel.out)
        obtain ⟨bq, oq, ea, -⟩ := TWr.out.iq.2.2.2 (by omega)
        subst ea
        obtain ⟨y, hy⟩ : ∃ y, q[j]? = some y := ⟨_, List.getElem?_eq_getElem (by rw [HNQ.out]; exact hlt)⟩
        have hYc0 := hide (fun W (hW : Below we.heap.size we W) => show Vt W bq (oq + j * 5) y from by
          obtain ⟨b9, o9, e9, hc⟩ := (TWe.out.iq.below hW (Nat.le_refl _)).2.2.2 (by omega)
          cases e9
          exact hc j y hy)
        have HFD := hide (fd_step HT.out.rise (x := x) hy)
        have HRG := hide (rg_step f t q j y hy)
        have HWY := hide (HT.out.wf y (List.mem_of_getElem? hy))
        have HMB := hide (may_mem (List.mem_of_getElem? hy))
        have HbR : Hid (bq ≠ Rw) := hide (by have h1 : bq < _ := TWe.out.iq.lt (by omega) _ rfl; have := HRweq.out; omega)
        obtain ⟨S4, K4, T4, V4, X4⟩ := y
        have hYc := hYc0
        unfold Vt Vi at hYc
        simp only at hYc
        obtain ⟨l1, hl1⟩ : ∃ l1, lessI S4 K4 T4 f.S f.K f.T = l1 := ⟨_, rfl⟩
        obtain ⟨l2, hl2⟩ : ∃ l2, lessI t.S t.K t.T S4 K4 T4 = l2 := ⟨_, rfl⟩
        obtain ⟨s3, hs3⟩ : ∃ s3, sameI S4 K4 T4 x.S x.K x.T = s3 := ⟨_, rfl⟩
        have HRB : Hid (rgB f t (⟨S4, K4, T4, V4, X4⟩ : It) = (!l1 && !l2)) := hide (by unfold rgB It.less; simp only; rw [hl1, hl2])
        have cL : Hid (∀ (p : Kp wr) (S0 K0 T0 V0 X0 S1 K1 T1 V1 X1 : Int) (o : Bool), lessI S0 K0 T0 S1 K1 T1 = o → Calls Tryz.prog 20 #[.agg #[.int .i64 S0, .int .i64 K0, .int .u64 T0, .int .u64 V0, .int .i64 X0], .agg #[.int .i64 S1, .int .i64 K1, .int .u64 T1, .int .u64 V1, .int .i64 X1]] p.W fun e w'' => e = .returned (.bool o) ∧ ∃ p' : Kp wr, w'' = p'.W) := hide fun p S0 K0 T0 V0 X0 S1 K1 T1 V1 X1 o ho => kp_call (by rw [← ho]; exact refless_any S0 K0 T0 V0 X0 S1 K1 T1 V1 X1 _)
        have hner : Nonempty (Kp wr) := ⟨⟨_, Below.refl _ _⟩⟩
        have hji : (j : Int) < (nq : Int) := by omega
        clear hy hYc0
        have d0 : ∀ p : Kp wr, p.W.cell? ⟨bq, oq + j * 5, none⟩ = some (.int .i64 S4) := fun p => ((hYc.out p.W (by first | exact wrbel.out.trans (p.h.mono wrbel.out.size))).1)
        have d1 : ∀ p : Kp wr, p.W.cell? ⟨bq, oq + j * 5 + 1, none⟩ = some (.int .i64 K4) := fun p => ((hYc.out p.W (by first | exact wrbel.out.trans (p.h.mono wrbel.out.size))).2.1)
        have d2 : ∀ p : Kp wr, p.W.cell? ⟨bq, oq + j * 5 + 2, none⟩ = some (.int .u64 T4) := fun p => ((hYc.out p.W (by first | exact wrbel.out.trans (p.h.mono wrbel.out.size))).2.2.1)
        have d3 : ∀ p : Kp wr, p.W.cell? ⟨bq, oq + j * 5 + 3, none⟩ = some (.int .u64 V4) := fun p => ((hYc.out p.W (by first | exact wrbel.out.trans (p.h.mono wrbel.out.size))).2.2.2.1)
        have d4 : ∀ p : Kp wr, p.W.cell? ⟨bq, oq + j * 5 + 4, none⟩ = some (.int .i64 X4) := fun p => ((hYc.out p.W (by first | exact wrbel.out.trans (p.h.mono wrbel.out.size))).2.2.2.2)
        have e0 : ∀ p : Kp wr, p.W.cell? ⟨R + 1, 0, none⟩ = some (.int .i64 f.S) := fun p => by simpa using (TWr.out.vf.keep p.h).1
        have e1 : ∀ p : Kp wr, p.W.cell? ⟨R + 1, 1, none⟩ = some (.int .i64 f.K) := fun p => by simpa using (TWr.out.vf.keep p.h).2.1
        have e2 : ∀ p : Kp wr, p.W.cell? ⟨R + 1, 2, none⟩ = some (.int .u64 f.T) := fun p => by simpa using (TWr.out.vf.keep p.h).2.2.1
        have e3 : ∀ p : Kp wr, p.W.cell? ⟨R + 1, 3, none⟩ = some (.int .u64 f.V) := fun p => by simpa using (TWr.out.vf.keep p.h).2.2.2.1
        have e4 : ∀ p : Kp wr, p.W.cell? ⟨R + 1, 4, none⟩ = some (.int .i64 f.X) := fun p => by simpa using (TWr.out.vf.keep p.h).2.2.2.2
        have g0 : ∀ p : Kp wr, p.W.cell? ⟨R + 2, 0, none⟩ = some (.int .i64 t.S) := fun p => by simpa using (TWr.out.vt.keep p.h).1
        have g1 : ∀ p : Kp wr, p.W.cell? ⟨R + 2, 1, none⟩ = some (.int .i64 t.K) := fun p => by simpa using (TWr.out.vt.keep p.h).2.1
        have g2 : ∀ p : Kp wr, p.W.cell? ⟨R + 2, 2, none⟩ = some (.int .u64 t.T) := fun p => by simpa using (TWr.out.vt.keep p.h).2.2.1
        have g3 : ∀ p : Kp wr, p.W.cell? ⟨R + 2, 3, none⟩ = some (.int .u64 t.V) := fun p => by simpa using (TWr.out.vt.keep p.h).2.2.2.1
        have g4 : ∀ p : Kp wr, p.W.cell? ⟨R + 2, 4, none⟩ = some (.int .i64 t.X) := fun p => by simpa using (TWr.out.vt.keep p.h).2.2.2.2
        have k0 : ∀ p : Kp wr, p.W.cell? ⟨R, 0, none⟩ = some (.int .i64 x.S) := fun p => by simpa using (TWr.out.vx.keep p.h).1
        have k1 : ∀ p : Kp wr, p.W.cell? ⟨R, 1, none⟩ = some (.int .i64 x.K) := fun p => by simpa using (TWr.out.vx.keep p.h).2.1
        have k2 : ∀ p : Kp wr, p.W.cell? ⟨R, 2, none⟩ = some (.int .u64 x.T) := fun p => by simpa using (TWr.out.vx.keep p.h).2.2.1
        have k3 : ∀ p : Kp wr, p.W.cell? ⟨R, 3, none⟩ = some (.int .u64 x.V) := fun p => by simpa using (TWr.out.vx.keep p.h).2.2.2.1
        have k4 : ∀ p : Kp wr, p.W.cell? ⟨R, 4, none⟩ = some (.int .i64 x.X) := fun p => by simpa using (TWr.out.vx.keep p.h).2.2.2.2
        cases l1 with
        | true =>
          go_wp2_with fail
          refine wp_region_kept (by kernel_rfl) (by kernel_rfl) ?_
          repeat (first
            | go_big_quiet_step (first | (go_at_call 20; exact cL.out _ _ _ _ _ _ _ _ _ _ _ _ (by assumption)))
            | fail)
          refine wpQuiet_nil ?_
          intro wA hw'
          have hbA : Hid (Below wr.heap.size wr wA) := by
            obtain ⟨⟨w7', hb7⟩, hw''⟩ := hw'
            rw [hw'']; exact hide hb7
          have wAbel := hide (wrbel.out.trans (hbA.out.mono wrbel.out.size))
          have OA := hide (ownI_keep hown.out hbA.out)
          have VA := hide (hvz.keep hbA.out)
          have HgA := hide (Nat.le_trans Hgr.out hbA.out.size)
          clear hw' hner cL d0 d1 d2 d3 d4 e0 e1 e2 e3 e4 g0 g1 g2 g3 g4 k0 k1 k2 k3 k4 hl1 hl2
          obtain ⟨wB, hwB⟩ : ∃ wB, wB = wA := ⟨_, rfl⟩
          subst hwB
          obtain ⟨vB, hvB⟩ : ∃ vB, vB = u20 := ⟨_, rfl⟩
          have OB : Hid (OwnI wB wg.heap.size vB (rg f t (q.take (j + 1)))) := hide (by rw [HRG.out, HRB.out, hvB]; simpa using OA.out)
          rw [← hvB]
          have VB := VA
          have wBbel := wAbel
          have HgB := HgA
          clear OA hvB
          cases s3 with
          | false =>
            have HS3 := hide hs3
            have HS4 : Hid ((⟨S4, K4, T4, V4, X4⟩ : It).same x = false) := hide hs3
            have TWB := hide (TWe.out.keep wBbel.out)
            have hneB : Nonempty (Kp wB) := ⟨⟨_, Below.refl _ _⟩⟩
            have cS : Hid (∀ p : Kp wB, Calls Tryz.prog 21 #[.agg #[Value.int IntKind.i64 S4, Value.int IntKind.i64 K4, Value.int IntKind.u64 T4, Value.int IntKind.u64 V4, Value.int IntKind.i64 X4], .agg #[Value.int IntKind.i64 x.S, Value.int IntKind.i64 x.K, Value.int IntKind.u64 x.T, Value.int IntKind.u64 x.V, Value.int IntKind.i64 x.X]] p.W fun e w'' => e = .returned (.bool false) ∧ ∃ p' : Kp wB, w'' = p'.W) := hide fun p => kp_call (by rw [← HS3.out]; exact refsame_any S4 K4 T4 V4 X4 x.S x.K x.T x.V x.X _)
            have d0 : ∀ p : Kp wB, p.W.cell? ⟨bq, oq + j * 5, none⟩ = some (.int .i64 S4) := fun p => ((hYc.out p.W (by first | exact wBbel.out.trans (p.h.mono wBbel.out.size))).1)
            have d1 : ∀ p : Kp wB, p.W.cell? ⟨bq, oq + j * 5 + 1, none⟩ = some (.int .i64 K4) := fun p => ((hYc.out p.W (by first | exact wBbel.out.trans (p.h.mono wBbel.out.size))).2.1)
            have d2 : ∀ p : Kp wB, p.W.cell? ⟨bq, oq + j * 5 + 2, none⟩ = some (.int .u64 T4) := fun p => ((hYc.out p.W (by first | exact wBbel.out.trans (p.h.mono wBbel.out.size))).2.2.1)
            have d3 : ∀ p : Kp wB, p.W.cell? ⟨bq, oq + j * 5 + 3, none⟩ = some (.int .u64 V4) := fun p => ((hYc.out p.W (by first | exact wBbel.out.trans (p.h.mono wBbel.out.size))).2.2.2.1)
            have d4 : ∀ p : Kp wB, p.W.cell? ⟨bq, oq + j * 5 + 4, none⟩ = some (.int .i64 X4) := fun p => ((hYc.out p.W (by first | exact wBbel.out.trans (p.h.mono wBbel.out.size))).2.2.2.2)
            have e0 : ∀ p : Kp wB, p.W.cell? ⟨R + 1, 0, none⟩ = some (.int .i64 f.S) := fun p => by simpa using (TWB.out.vf.keep p.h).1
            have e1 : ∀ p : Kp wB, p.W.cell? ⟨R + 1, 1, none⟩ = some (.int .i64 f.K) := fun p => by simpa using (TWB.out.vf.keep p.h).2.1
            have e2 : ∀ p : Kp wB, p.W.cell? ⟨R + 1, 2, none⟩ = some (.int .u64 f.T) := fun p => by simpa using (TWB.out.vf.keep p.h).2.2.1
            have e3 : ∀ p : Kp wB, p.W.cell? ⟨R + 1, 3, none⟩ = some (.int .u64 f.V) := fun p => by simpa using (TWB.out.vf.keep p.h).2.2.2.1
            have e4 : ∀ p : Kp wB, p.W.cell? ⟨R + 1, 4, none⟩ = some (.int .i64 f.X) := fun p => by simpa using (TWB.out.vf.keep p.h).2.2.2.2
            have g0 : ∀ p : Kp wB, p.W.cell? ⟨R + 2, 0, none⟩ = some (.int .i64 t.S) := fun p => by simpa using (TWB.out.vt.keep p.h).1
            have g1 : ∀ p : Kp wB, p.W.cell? ⟨R + 2, 1, none⟩ = some (.int .i64 t.K) := fun p => by simpa using (TWB.out.vt.keep p.h).2.1
            have g2 : ∀ p : Kp wB, p.W.cell? ⟨R + 2, 2, none⟩ = some (.int .u64 t.T) := fun p => by simpa using (TWB.out.vt.keep p.h).2.2.1
            have g3 : ∀ p : Kp wB, p.W.cell? ⟨R + 2, 3, none⟩ = some (.int .u64 t.V) := fun p => by simpa using (TWB.out.vt.keep p.h).2.2.2.1
            have g4 : ∀ p : Kp wB, p.W.cell? ⟨R + 2, 4, none⟩ = some (.int .i64 t.X) := fun p => by simpa using (TWB.out.vt.keep p.h).2.2.2.2
            have k0 : ∀ p : Kp wB, p.W.cell? ⟨R, 0, none⟩ = some (.int .i64 x.S) := fun p => by simpa using (TWB.out.vx.keep p.h).1
            have k1 : ∀ p : Kp wB, p.W.cell? ⟨R, 1, none⟩ = some (.int .i64 x.K) := fun p => by simpa using (TWB.out.vx.keep p.h).2.1
            have k2 : ∀ p : Kp wB, p.W.cell? ⟨R, 2, none⟩ = some (.int .u64 x.T) := fun p => by simpa using (TWB.out.vx.keep p.h).2.2.1
            have k3 : ∀ p : Kp wB, p.W.cell? ⟨R, 3, none⟩ = some (.int .u64 x.V) := fun p => by simpa using (TWB.out.vx.keep p.h).2.2.2.1
            have k4 : ∀ p : Kp wB, p.W.cell? ⟨R, 4, none⟩ = some (.int .i64 x.X) := fun p => by simpa using (TWB.out.vx.keep p.h).2.2.2.2
            go_wp2_with fail
            refine wp_region_kept (by kernel_rfl) (by kernel_rfl) ?_
            repeat (first
              | go_big_quiet_step (first | (go_at_call 21; exact cS.out _))
              | fail)
            refine wpQuiet_nil ?_
            intro wC hw'
            have hbC : Hid (Below wB.heap.size wB wC) := by
              obtain ⟨⟨w7', hb7⟩, hw''⟩ := hw'
              rw [hw'']; exact hide hb7
            have wCbel := hide (wBbel.out.trans (hbC.out.mono wBbel.out.size))
            have HgC := hide (Nat.le_trans HgB.out hbC.out.size)
            have OC := hide (ownI_keep OB.out hbC.out)
            have VC := hide (VB.out.keep hbC.out)
            clear hw' hneB cS d0 d1 d2 d3 d4 e0 e1 e2 e3 e4 g0 g1 g2 g3 g4 k0 k1 k2 k3 k4
            obtain ⟨r0, r1, r2, r3, r4⟩ := hYc.out wC wCbel.out
            obtain ⟨wD, hwD⟩ : ∃ wD, wD = wC := ⟨_, rfl⟩
            subst hwD
            have VD := VC
            have OD := OC
            have wDbel := wCbel
            have TWD := hide (TWe.out.keep wDbel.out)
            have HgD := HgC
            obtain ⟨BD, dD, htD⟩ := TWD.out.tb
            have hMy := hide (show Calls Tryz.prog 22 #[.pointer (some ⟨M, 0, none⟩), .agg #[Value.int IntKind.i64 S4, Value.int IntKind.i64 K4, Value.int IntKind.u64 T4, Value.int IntKind.u64 V4, Value.int IntKind.i64 X4]] wD fun e w' => e = .returned (.bool true) ∧ Below wD.heap.size wD w' from by
              have := tmay_any wD M dD BD q htD (⟨S4, K4, T4, V4, X4⟩ : It) HWY.out
              rw [HMB.out] at this; exact this)
            clear htD
            go_wp2_with fail
            clear r0 r1 r2 r3 r4
            refine hMy.out.mono ?_
            rintro e wE ⟨rfl, hbE⟩
            have OE := hide (ownI_keep OD.out hbE)
            have VE := hide (VD.out.keep hbE)
            have wEbel := hide (wDbel.out.trans (hbE.mono wDbel.out.size))
            have HgE := hide (Nat.le_trans HgD.out hbE.size)
            clear hMy hbE
            go_wp2
            go_roundw
            case rel => exact ⟨j + 1, ob, by omega, by go_num, rfl, hide (by rw [HFD.out, HS4.out]; exact hob.out), OE, hide ⟨z, by rw [HFD.out, HS4.out]; exact hz, VE.out⟩, wEbel, HgE⟩
            case measure => simp [intOf]; omega
          | true =>
            have HS3 := hide hs3
            have HS4 : Hid ((⟨S4, K4, T4, V4, X4⟩ : It).same x = true) := hide hs3
            have TWB := hide (TWe.out.keep wBbel.out)
            have hneB : Nonempty (Kp wB) := ⟨⟨_, Below.refl _ _⟩⟩
            have cS : Hid (∀ p : Kp wB, Calls Tryz.prog 21 #[.agg #[Value.int IntKind.i64 S4, Value.int IntKind.i64 K4, Value.int IntKind.u64 T4, Value.int IntKind.u64 V4, Value.int IntKind.i64 X4], .agg #[Value.int IntKind.i64 x.S, Value.int IntKind.i64 x.K, Value.int IntKind.u64 x.T, Value.int IntKind.u64 x.V, Value.int IntKind.i64 x.X]] p.W fun e w'' => e = .returned (.bool true) ∧ ∃ p' : Kp wB, w'' = p'.W) := hide fun p => kp_call (by rw [← HS3.out]; exact refsame_any S4 K4 T4 V4 X4 x.S x.K x.T x.V x.X _)
            have d0 : ∀ p : Kp wB, p.W.cell? ⟨bq, oq + j * 5, none⟩ = some (.int .i64 S4) := fun p => ((hYc.out p.W (by first | exact wBbel.out.trans (p.h.mono wBbel.out.size))).1)
            have d1 : ∀ p : Kp wB, p.W.cell? ⟨bq, oq + j * 5 + 1, none⟩ = some (.int .i64 K4) := fun p => ((hYc.out p.W (by first | exact wBbel.out.trans (p.h.mono wBbel.out.size))).2.1)
            have d2 : ∀ p : Kp wB, p.W.cell? ⟨bq, oq + j * 5 + 2, none⟩ = some (.int .u64 T4) := fun p => ((hYc.out p.W (by first | exact wBbel.out.trans (p.h.mono wBbel.out.size))).2.2.1)
            have d3 : ∀ p : Kp wB, p.W.cell? ⟨bq, oq + j * 5 + 3, none⟩ = some (.int .u64 V4) := fun p => ((hYc.out p.W (by first | exact wBbel.out.trans (p.h.mono wBbel.out.size))).2.2.2.1)
            have d4 : ∀ p : Kp wB, p.W.cell? ⟨bq, oq + j * 5 + 4, none⟩ = some (.int .i64 X4) := fun p => ((hYc.out p.W (by first | exact wBbel.out.trans (p.h.mono wBbel.out.size))).2.2.2.2)
            have e0 : ∀ p : Kp wB, p.W.cell? ⟨R + 1, 0, none⟩ = some (.int .i64 f.S) := fun p => by simpa using (TWB.out.vf.keep p.h).1
            have e1 : ∀ p : Kp wB, p.W.cell? ⟨R + 1, 1, none⟩ = some (.int .i64 f.K) := fun p => by simpa using (TWB.out.vf.keep p.h).2.1
            have e2 : ∀ p : Kp wB, p.W.cell? ⟨R + 1, 2, none⟩ = some (.int .u64 f.T) := fun p => by simpa using (TWB.out.vf.keep p.h).2.2.1
            have e3 : ∀ p : Kp wB, p.W.cell? ⟨R + 1, 3, none⟩ = some (.int .u64 f.V) := fun p => by simpa using (TWB.out.vf.keep p.h).2.2.2.1
            have e4 : ∀ p : Kp wB, p.W.cell? ⟨R + 1, 4, none⟩ = some (.int .i64 f.X) := fun p => by simpa using (TWB.out.vf.keep p.h).2.2.2.2
            have g0 : ∀ p : Kp wB, p.W.cell? ⟨R + 2, 0, none⟩ = some (.int .i64 t.S) := fun p => by simpa using (TWB.out.vt.keep p.h).1
            have g1 : ∀ p : Kp wB, p.W.cell? ⟨R + 2, 1, none⟩ = some (.int .i64 t.K) := fun p => by simpa using (TWB.out.vt.keep p.h).2.1
            have g2 : ∀ p : Kp wB, p.W.cell? ⟨R + 2, 2, none⟩ = some (.int .u64 t.T) := fun p => by simpa using (TWB.out.vt.keep p.h).2.2.1
            have g3 : ∀ p : Kp wB, p.W.cell? ⟨R + 2, 3, none⟩ = some (.int .u64 t.V) := fun p => by simpa using (TWB.out.vt.keep p.h).2.2.2.1
            have g4 : ∀ p : Kp wB, p.W.cell? ⟨R + 2, 4, none⟩ = some (.int .i64 t.X) := fun p => by simpa using (TWB.out.vt.keep p.h).2.2.2.2
            have k0 : ∀ p : Kp wB, p.W.cell? ⟨R, 0, none⟩ = some (.int .i64 x.S) := fun p => by simpa using (TWB.out.vx.keep p.h).1
            have k1 : ∀ p : Kp wB, p.W.cell? ⟨R, 1, none⟩ = some (.int .i64 x.K) := fun p => by simpa using (TWB.out.vx.keep p.h).2.1
            have k2 : ∀ p : Kp wB, p.W.cell? ⟨R, 2, none⟩ = some (.int .u64 x.T) := fun p => by simpa using (TWB.out.vx.keep p.h).2.2.1
            have k3 : ∀ p : Kp wB, p.W.cell? ⟨R, 3, none⟩ = some (.int .u64 x.V) := fun p => by simpa using (TWB.out.vx.keep p.h).2.2.2.1
            have k4 : ∀ p : Kp wB, p.W.cell? ⟨R, 4, none⟩ = some (.int .i64 x.X) := fun p => by simpa using (TWB.out.vx.keep p.h).2.2.2.2
            go_wp2_with fail
            refine wp_region_kept (by kernel_rfl) (by kernel_rfl) ?_
            repeat (first
              | go_big_quiet_step (first | (go_at_call 21; exact cS.out _))
              | fail)
            refine wpQuiet_nil ?_
            intro wC hw'
            have hbC : Hid (Below wB.heap.size wB wC) := by
              obtain ⟨⟨w7', hb7⟩, hw''⟩ := hw'
              rw [hw'']; exact hide hb7
            have wCbel := hide (wBbel.out.trans (hbC.out.mono wBbel.out.size))
            have HgC := hide (Nat.le_trans HgB.out hbC.out.size)
            have OC := hide (ownI_keep OB.out hbC.out)
            have VC := hide (VB.out.keep hbC.out)
            clear hw' hneB cS d0 d1 d2 d3 d4 e0 e1 e2 e3 e4 g0 g1 g2 g3 g4 k0 k1 k2 k3 k4
            obtain ⟨r0, r1, r2, r3, r4⟩ := hYc.out wC wCbel.out
            have gx := VC.out
            unfold Vx Vi Vf at gx
            simp only [Nat.zero_add] at gx
            obtain ⟨⟨y0, y1, y2, y3, y4⟩, z0, z1, z2, z3, z4⟩ := gx
            have VD := hide (VC.out.put S4 K4 T4 V4 X4)
            have OD : Hid (OwnI (putI wC Rw S4 K4 T4 V4 X4) wg.heap.size vB (rg f t (q.take (j + 1)))) := hide (ownI_grown OC.out (gb_putI wC Rw S4 K4 T4 V4 X4) (fun k hk => by cases hk; exact HRw.out))
            have wDbel : Hid (Below we.heap.size we (putI wC Rw S4 K4 T4 V4 X4)) := hide (wCbel.out.grown (gb_putI wC Rw S4 K4 T4 V4 X4) wCbel.out.size (fun k hk => by cases hk; exact HRwe.out))
            obtain ⟨wD, hwD⟩ : ∃ wD, wD = putI wC Rw S4 K4 T4 V4 X4 := ⟨_, rfl⟩
            rw [← hwD] at VD OD wDbel
            have TWD := hide (TWe.out.keep wDbel.out)
            have HgD : Hid (wg.heap.size ≤ wD.heap.size) := hide (by rw [hwD]; exact Nat.le_trans HgC.out (gb_putI wC Rw S4 K4 T4 V4 X4).size)
            obtain ⟨BD, dD, htD⟩ := TWD.out.tb
            have hMy := hide (show Calls Tryz.prog 22 #[.pointer (some ⟨M, 0, none⟩), .agg #[Value.int IntKind.i64 S4, Value.int IntKind.i64 K4, Value.int IntKind.u64 T4, Value.int IntKind.u64 V4, Value.int IntKind.i64 X4]] wD fun e w' => e = .returned (.bool true) ∧ Below wD.heap.size wD w' from by
              have := tmay_any wD M dD BD q htD (⟨S4, K4, T4, V4, X4⟩ : It) HWY.out
              rw [HMB.out] at this; exact this)
            have hbR : bq ≠ Rw := HbR.out
            have hwDx := hwD
            unfold putI at hwDx
            clear htD hwD
            go_wp2_with fail
            rw [← hwDx]
            clear hwDx y0 y1 y2 y3 y4 z0 z1 z2 z3 z4 r0 r1 r2 r3 r4
            refine hMy.out.mono ?_
            rintro e wE ⟨rfl, hbE⟩
            have OE := hide (ownI_keep OD.out hbE)
            have VE := hide (VD.out.keep hbE)
            have wEbel := hide (wDbel.out.trans (hbE.mono wDbel.out.size))
            have HgE := hide (Nat.le_trans HgD.out hbE.size)
            clear hMy hbE
            go_wp2
            go_roundw
            case rel => exact ⟨j + 1, true, by omega, by go_num, rfl, hide (by rw [HFD.out, HS4.out]; rfl), OE, hide ⟨(⟨S4, K4, T4, V4, X4⟩ : It), by rw [HFD.out, HS4.out]; rfl, VE.out⟩, wEbel, HgE⟩
            case measure => simp [intOf]; omega
        | false =>
          cases l2 with
          | true =>
            go_wp2_with fail
            refine wp_region_kept (by kernel_rfl) (by kernel_rfl) ?_
            repeat (first
              | go_big_quiet_step (first | (go_at_call 20; exact cL.out _ _ _ _ _ _ _ _ _ _ _ _ (by assumption)))
              | fail)
            refine wpQuiet_nil ?_
            intro wA hw'
            have hbA : Hid (Below wr.heap.size wr wA) := by
              obtain ⟨⟨w7', hb7⟩, hw''⟩ := hw'
              rw [hw'']; exact hide hb7
            have wAbel := hide (wrbel.out.trans (hbA.out.mono wrbel.out.size))
            have OA := hide (ownI_keep hown.out hbA.out)
            have VA := hide (hvz.keep hbA.out)
            have HgA := hide (Nat.le_trans Hgr.out hbA.out.size)
            clear hw' hner cL d0 d1 d2 d3 d4 e0 e1 e2 e3 e4 g0 g1 g2 g3 g4 k0 k1 k2 k3 k4 hl1 hl2
            obtain ⟨wB, hwB⟩ : ∃ wB, wB = wA := ⟨_, rfl⟩
            subst hwB
            obtain ⟨vB, hvB⟩ : ∃ vB, vB = u20 := ⟨_, rfl⟩
            have OB : Hid (OwnI wB wg.heap.size vB (rg f t (q.take (j + 1)))) := hide (by rw [HRG.out, HRB.out, hvB]; simpa using OA.out)
            rw [← hvB]
            have VB := VA
            have wBbel := wAbel
            have HgB := HgA
            clear OA hvB
            cases s3 with
            | false =>
              have HS3 := hide hs3
              have HS4 : Hid ((⟨S4, K4, T4, V4, X4⟩ : It).same x = false) := hide hs3
              have TWB := hide (TWe.out.keep wBbel.out)
              have hneB : Nonempty (Kp wB) := ⟨⟨_, Below.refl _ _⟩⟩
              have cS : Hid (∀ p : Kp wB, Calls Tryz.prog 21 #[.agg #[Value.int IntKind.i64 S4, Value.int IntKind.i64 K4, Value.int IntKind.u64 T4, Value.int IntKind.u64 V4, Value.int IntKind.i64 X4], .agg #[Value.int IntKind.i64 x.S, Value.int IntKind.i64 x.K, Value.int IntKind.u64 x.T, Value.int IntKind.u64 x.V, Value.int IntKind.i64 x.X]] p.W fun e w'' => e = .returned (.bool false) ∧ ∃ p' : Kp wB, w'' = p'.W) := hide fun p => kp_call (by rw [← HS3.out]; exact refsame_any S4 K4 T4 V4 X4 x.S x.K x.T x.V x.X _)
              have d0 : ∀ p : Kp wB, p.W.cell? ⟨bq, oq + j * 5, none⟩ = some (.int .i64 S4) := fun p => ((hYc.out p.W (by first | exact wBbel.out.trans (p.h.mono wBbel.out.size))).1)
              have d1 : ∀ p : Kp wB, p.W.cell? ⟨bq, oq + j * 5 + 1, none⟩ = some (.int .i64 K4) := fun p => ((hYc.out p.W (by first | exact wBbel.out.trans (p.h.mono wBbel.out.size))).2.1)
              have d2 : ∀ p : Kp wB, p.W.cell? ⟨bq, oq + j * 5 + 2, none⟩ = some (.int .u64 T4) := fun p => ((hYc.out p.W (by first | exact wBbel.out.trans (p.h.mono wBbel.out.size))).2.2.1)
              have d3 : ∀ p : Kp wB, p.W.cell? ⟨bq, oq + j * 5 + 3, none⟩ = some (.int .u64 V4) := fun p => ((hYc.out p.W (by first | exact wBbel.out.trans (p.h.mono wBbel.out.size))).2.2.2.1)
              have d4 : ∀ p : Kp wB, p.W.cell? ⟨bq, oq + j * 5 + 4, none⟩ = some (.int .i64 X4) := fun p => ((hYc.out p.W (by first | exact wBbel.out.trans (p.h.mono wBbel.out.size))).2.2.2.2)
              have e0 : ∀ p : Kp wB, p.W.cell? ⟨R + 1, 0, none⟩ = some (.int .i64 f.S) := fun p => by simpa using (TWB.out.vf.keep p.h).1
              have e1 : ∀ p : Kp wB, p.W.cell? ⟨R + 1, 1, none⟩ = some (.int .i64 f.K) := fun p => by simpa using (TWB.out.vf.keep p.h).2.1
              have e2 : ∀ p : Kp wB, p.W.cell? ⟨R + 1, 2, none⟩ = some (.int .u64 f.T) := fun p => by simpa using (TWB.out.vf.keep p.h).2.2.1
              have e3 : ∀ p : Kp wB, p.W.cell? ⟨R + 1, 3, none⟩ = some (.int .u64 f.V) := fun p => by simpa using (TWB.out.vf.keep p.h).2.2.2.1
              have e4 : ∀ p : Kp wB, p.W.cell? ⟨R + 1, 4, none⟩ = some (.int .i64 f.X) := fun p => by simpa using (TWB.out.vf.keep p.h).2.2.2.2
              have g0 : ∀ p : Kp wB, p.W.cell? ⟨R + 2, 0, none⟩ = some (.int .i64 t.S) := fun p => by simpa using (TWB.out.vt.keep p.h).1
              have g1 : ∀ p : Kp wB, p.W.cell? ⟨R + 2, 1, none⟩ = some (.int .i64 t.K) := fun p => by simpa using (TWB.out.vt.keep p.h).2.1
              have g2 : ∀ p : Kp wB, p.W.cell? ⟨R + 2, 2, none⟩ = some (.int .u64 t.T) := fun p => by simpa using (TWB.out.vt.keep p.h).2.2.1
              have g3 : ∀ p : Kp wB, p.W.cell? ⟨R + 2, 3, none⟩ = some (.int .u64 t.V) := fun p => by simpa using (TWB.out.vt.keep p.h).2.2.2.1
              have g4 : ∀ p : Kp wB, p.W.cell? ⟨R + 2, 4, none⟩ = some (.int .i64 t.X) := fun p => by simpa using (TWB.out.vt.keep p.h).2.2.2.2
              have k0 : ∀ p : Kp wB, p.W.cell? ⟨R, 0, none⟩ = some (.int .i64 x.S) := fun p => by simpa using (TWB.out.vx.keep p.h).1
              have k1 : ∀ p : Kp wB, p.W.cell? ⟨R, 1, none⟩ = some (.int .i64 x.K) := fun p => by simpa using (TWB.out.vx.keep p.h).2.1
              have k2 : ∀ p : Kp wB, p.W.cell? ⟨R, 2, none⟩ = some (.int .u64 x.T) := fun p => by simpa using (TWB.out.vx.keep p.h).2.2.1
              have k3 : ∀ p : Kp wB, p.W.cell? ⟨R, 3, none⟩ = some (.int .u64 x.V) := fun p => by simpa using (TWB.out.vx.keep p.h).2.2.2.1
              have k4 : ∀ p : Kp wB, p.W.cell? ⟨R, 4, none⟩ = some (.int .i64 x.X) := fun p => by simpa using (TWB.out.vx.keep p.h).2.2.2.2
              go_wp2_with fail
              refine wp_region_kept (by kernel_rfl) (by kernel_rfl) ?_
              repeat (first
                | go_big_quiet_step (first | (go_at_call 21; exact cS.out _))
                | fail)
              refine wpQuiet_nil ?_
              intro wC hw'
              have hbC : Hid (Below wB.heap.size wB wC) := by
                obtain ⟨⟨w7', hb7⟩, hw''⟩ := hw'
                rw [hw'']; exact hide hb7
              have wCbel := hide (wBbel.out.trans (hbC.out.mono wBbel.out.size))
              have HgC := hide (Nat.le_trans HgB.out hbC.out.size)
              have OC := hide (ownI_keep OB.out hbC.out)
              have VC := hide (VB.out.keep hbC.out)
              clear hw' hneB cS d0 d1 d2 d3 d4 e0 e1 e2 e3 e4 g0 g1 g2 g3 g4 k0 k1 k2 k3 k4
              obtain ⟨r0, r1, r2, r3, r4⟩ := hYc.out wC wCbel.out
              obtain ⟨wD, hwD⟩ : ∃ wD, wD = wC := ⟨_, rfl⟩
              subst hwD
              have VD := VC
              have OD := OC
              have wDbel := wCbel
              have TWD := hide (TWe.out.keep wDbel.out)
              have HgD := HgC
              obtain ⟨BD, dD, htD⟩ := TWD.out.tb
              have hMy := hide (show Calls Tryz.prog 22 #[.pointer (some ⟨M, 0, none⟩), .agg #[Value.int IntKind.i64 S4, Value.int IntKind.i64 K4, Value.int IntKind.u64 T4, Value.int IntKind.u64 V4, Value.int IntKind.i64 X4]] wD fun e w' => e = .returned (.bool true) ∧ Below wD.heap.size wD w' from by
                have := tmay_any wD M dD BD q htD (⟨S4, K4, T4, V4, X4⟩ : It) HWY.out
                rw [HMB.out] at this; exact this)
              clear htD
              go_wp2_with fail
              clear r0 r1 r2 r3 r4
              refine hMy.out.mono ?_
              rintro e wE ⟨rfl, hbE⟩
              have OE := hide (ownI_keep OD.out hbE)
              have VE := hide (VD.out.keep hbE)
              have wEbel := hide (wDbel.out.trans (hbE.mono wDbel.out.size))
              have HgE := hide (Nat.le_trans HgD.out hbE.size)
              clear hMy hbE
              go_wp2
              go_roundw
              case rel => exact ⟨j + 1, ob, by omega, by go_num, rfl, hide (by rw [HFD.out, HS4.out]; exact hob.out), OE, hide ⟨z, by rw [HFD.out, HS4.out]; exact hz, VE.out⟩, wEbel, HgE⟩
              case measure => simp [intOf]; omega
            | true =>
              have HS3 := hide hs3
              have HS4 : Hid ((⟨S4, K4, T4, V4, X4⟩ : It).same x = true) := hide hs3
              have TWB := hide (TWe.out.keep wBbel.out)
              have hneB : Nonempty (Kp wB) := ⟨⟨_, Below.refl _ _⟩⟩
              have cS : Hid (∀ p : Kp wB, Calls Tryz.prog 21 #[.agg #[Value.int IntKind.i64 S4, Value.int IntKind.i64 K4, Value.int IntKind.u64 T4, Value.int IntKind.u64 V4, Value.int IntKind.i64 X4], .agg #[Value.int IntKind.i64 x.S, Value.int IntKind.i64 x.K, Value.int IntKind.u64 x.T, Value.int IntKind.u64 x.V, Value.int IntKind.i64 x.X]] p.W fun e w'' => e = .returned (.bool true) ∧ ∃ p' : Kp wB, w'' = p'.W) := hide fun p => kp_call (by rw [← HS3.out]; exact refsame_any S4 K4 T4 V4 X4 x.S x.K x.T x.V x.X _)
              have d0 : ∀ p : Kp wB, p.W.cell? ⟨bq, oq + j * 5, none⟩ = some (.int .i64 S4) := fun p => ((hYc.out p.W (by first | exact wBbel.out.trans (p.h.mono wBbel.out.size))).1)
              have d1 : ∀ p : Kp wB, p.W.cell? ⟨bq, oq + j * 5 + 1, none⟩ = some (.int .i64 K4) := fun p => ((hYc.out p.W (by first | exact wBbel.out.trans (p.h.mono wBbel.out.size))).2.1)
              have d2 : ∀ p : Kp wB, p.W.cell? ⟨bq, oq + j * 5 + 2, none⟩ = some (.int .u64 T4) := fun p => ((hYc.out p.W (by first | exact wBbel.out.trans (p.h.mono wBbel.out.size))).2.2.1)
              have d3 : ∀ p : Kp wB, p.W.cell? ⟨bq, oq + j * 5 + 3, none⟩ = some (.int .u64 V4) := fun p => ((hYc.out p.W (by first | exact wBbel.out.trans (p.h.mono wBbel.out.size))).2.2.2.1)
              have d4 : ∀ p : Kp wB, p.W.cell? ⟨bq, oq + j * 5 + 4, none⟩ = some (.int .i64 X4) := fun p => ((hYc.out p.W (by first | exact wBbel.out.trans (p.h.mono wBbel.out.size))).2.2.2.2)
              have e0 : ∀ p : Kp wB, p.W.cell? ⟨R + 1, 0, none⟩ = some (.int .i64 f.S) := fun p => by simpa using (TWB.out.vf.keep p.h).1
              have e1 : ∀ p : Kp wB, p.W.cell? ⟨R + 1, 1, none⟩ = some (.int .i64 f.K) := fun p => by simpa using (TWB.out.vf.keep p.h).2.1
              have e2 : ∀ p : Kp wB, p.W.cell? ⟨R + 1, 2, none⟩ = some (.int .u64 f.T) := fun p => by simpa using (TWB.out.vf.keep p.h).2.2.1
              have e3 : ∀ p : Kp wB, p.W.cell? ⟨R + 1, 3, none⟩ = some (.int .u64 f.V) := fun p => by simpa using (TWB.out.vf.keep p.h).2.2.2.1
              have e4 : ∀ p : Kp wB, p.W.cell? ⟨R + 1, 4, none⟩ = some (.int .i64 f.X) := fun p => by simpa using (TWB.out.vf.keep p.h).2.2.2.2
              have g0 : ∀ p : Kp wB, p.W.cell? ⟨R + 2, 0, none⟩ = some (.int .i64 t.S) := fun p => by simpa using (TWB.out.vt.keep p.h).1
              have g1 : ∀ p : Kp wB, p.W.cell? ⟨R + 2, 1, none⟩ = some (.int .i64 t.K) := fun p => by simpa using (TWB.out.vt.keep p.h).2.1
              have g2 : ∀ p : Kp wB, p.W.cell? ⟨R + 2, 2, none⟩ = some (.int .u64 t.T) := fun p => by simpa using (TWB.out.vt.keep p.h).2.2.1
              have g3 : ∀ p : Kp wB, p.W.cell? ⟨R + 2, 3, none⟩ = some (.int .u64 t.V) := fun p => by simpa using (TWB.out.vt.keep p.h).2.2.2.1
              have g4 : ∀ p : Kp wB, p.W.cell? ⟨R + 2, 4, none⟩ = some (.int .i64 t.X) := fun p => by simpa using (TWB.out.vt.keep p.h).2.2.2.2
              have k0 : ∀ p : Kp wB, p.W.cell? ⟨R, 0, none⟩ = some (.int .i64 x.S) := fun p => by simpa using (TWB.out.vx.keep p.h).1
              have k1 : ∀ p : Kp wB, p.W.cell? ⟨R, 1, none⟩ = some (.int .i64 x.K) := fun p => by simpa using (TWB.out.vx.keep p.h).2.1
              have k2 : ∀ p : Kp wB, p.W.cell? ⟨R, 2, none⟩ = some (.int .u64 x.T) := fun p => by simpa using (TWB.out.vx.keep p.h).2.2.1
              have k3 : ∀ p : Kp wB, p.W.cell? ⟨R, 3, none⟩ = some (.int .u64 x.V) := fun p => by simpa using (TWB.out.vx.keep p.h).2.2.2.1
              have k4 : ∀ p : Kp wB, p.W.cell? ⟨R, 4, none⟩ = some (.int .i64 x.X) := fun p => by simpa using (TWB.out.vx.keep p.h).2.2.2.2
              go_wp2_with fail
              refine wp_region_kept (by kernel_rfl) (by kernel_rfl) ?_
              repeat (first
                | go_big_quiet_step (first | (go_at_call 21; exact cS.out _))
                | fail)
              refine wpQuiet_nil ?_
              intro wC hw'
              have hbC : Hid (Below wB.heap.size wB wC) := by
                obtain ⟨⟨w7', hb7⟩, hw''⟩ := hw'
                rw [hw'']; exact hide hb7
              have wCbel := hide (wBbel.out.trans (hbC.out.mono wBbel.out.size))
              have HgC := hide (Nat.le_trans HgB.out hbC.out.size)
              have OC := hide (ownI_keep OB.out hbC.out)
              have VC := hide (VB.out.keep hbC.out)
              clear hw' hneB cS d0 d1 d2 d3 d4 e0 e1 e2 e3 e4 g0 g1 g2 g3 g4 k0 k1 k2 k3 k4
              obtain ⟨r0, r1, r2, r3, r4⟩ := hYc.out wC wCbel.out
              have gx := VC.out
              unfold Vx Vi Vf at gx
              simp only [Nat.zero_add] at gx
              obtain ⟨⟨y0, y1, y2, y3, y4⟩, z0, z1, z2, z3, z4⟩ := gx
              have VD := hide (VC.out.put S4 K4 T4 V4 X4)
              have OD : Hid (OwnI (putI wC Rw S4 K4 T4 V4 X4) wg.heap.size vB (rg f t (q.take (j + 1)))) := hide (ownI_grown OC.out (gb_putI wC Rw S4 K4 T4 V4 X4) (fun k hk => by cases hk; exact HRw.out))
              have wDbel : Hid (Below we.heap.size we (putI wC Rw S4 K4 T4 V4 X4)) := hide (wCbel.out.grown (gb_putI wC Rw S4 K4 T4 V4 X4) wCbel.out.size (fun k hk => by cases hk; exact HRwe.out))
              obtain ⟨wD, hwD⟩ : ∃ wD, wD = putI wC Rw S4 K4 T4 V4 X4 := ⟨_, rfl⟩
              rw [← hwD] at VD OD wDbel
              have TWD := hide (TWe.out.keep wDbel.out)
              have HgD : Hid (wg.heap.size ≤ wD.heap.size) := hide (by rw [hwD]; exact Nat.le_trans HgC.out (gb_putI wC Rw S4 K4 T4 V4 X4).size)
              obtain ⟨BD, dD, htD⟩ := TWD.out.tb
              have hMy := hide (show Calls Tryz.prog 22 #[.pointer (some ⟨M, 0, none⟩), .agg #[Value.int IntKind.i64 S4, Value.int IntKind.i64 K4, Value.int IntKind.u64 T4, Value.int IntKind.u64 V4, Value.int IntKind.i64 X4]] wD fun e w' => e = .returned (.bool true) ∧ Below wD.heap.size wD w' from by
                have := tmay_any wD M dD BD q htD (⟨S4, K4, T4, V4, X4⟩ : It) HWY.out
                rw [HMB.out] at this; exact this)
              have hbR : bq ≠ Rw := HbR.out
              have hwDx := hwD
              unfold putI at hwDx
              clear htD hwD
              go_wp2_with fail
              rw [← hwDx]
              clear hwDx y0 y1 y2 y3 y4 z0 z1 z2 z3 z4 r0 r1 r2 r3 r4
              refine hMy.out.mono ?_
              rintro e wE ⟨rfl, hbE⟩
              have OE := hide (ownI_keep OD.out hbE)
              have VE := hide (VD.out.keep hbE)
              have wEbel := hide (wDbel.out.trans (hbE.mono wDbel.out.size))
              have HgE := hide (Nat.le_trans HgD.out hbE.size)
              clear hMy hbE
              go_wp2
              go_roundw
              case rel => exact ⟨j + 1, true, by omega, by go_num, rfl, hide (by rw [HFD.out, HS4.out]; rfl), OE, hide ⟨(⟨S4, K4, T4, V4, X4⟩ : It), by rw [HFD.out, HS4.out]; rfl, VE.out⟩, wEbel, HgE⟩
              case measure => simp [intOf]; omega
          | false =>
            go_wp2_with fail
            refine wp_region_kept (by kernel_rfl) (by kernel_rfl) ?_
            repeat (first
              | go_big_quiet_step (first | (go_at_call 20; exact cL.out _ _ _ _ _ _ _ _ _ _ _ _ (by assumption)))
              | fail)
            refine wpQuiet_nil ?_
            intro wA hw'
            have hbA : Hid (Below wr.heap.size wr wA) := by
              obtain ⟨⟨w7', hb7⟩, hw''⟩ := hw'
              rw [hw'']; exact hide hb7
            have wAbel := hide (wrbel.out.trans (hbA.out.mono wrbel.out.size))
            have OA := hide (ownI_keep hown.out hbA.out)
            have VA := hide (hvz.keep hbA.out)
            have HgA := hide (Nat.le_trans Hgr.out hbA.out.size)
            clear hw' hner cL d0 d1 d2 d3 d4 e0 e1 e2 e3 e4 g0 g1 g2 g3 g4 k0 k1 k2 k3 k4 hl1 hl2
            have Aa := hide ((Below.refl _ wA).alloc (Nat.le_refl _) (Obj.cells #[Value.int IntKind.i64 S4, Value.int IntKind.i64 K4, Value.int IntKind.u64 T4, Value.int IntKind.u64 V4, Value.int IntKind.i64 X4] 25))
            have Oa := hide (ownI_keep OA.out Aa.out)
            have Ia := hide (is_one wA S4 K4 T4 V4 X4 HWY.out)
            have HSa : Hid (wg.heap.size ≤ (wA.alloc (Obj.cells #[Value.int IntKind.i64 S4, Value.int IntKind.i64 K4, Value.int IntKind.u64 T4, Value.int IntKind.u64 V4, Value.int IntKind.i64 X4] 25)).heap.size) := hide (Nat.le_trans HgA.out Aa.out.size)
            obtain ⟨r0, r1, r2, r3, r4⟩ := hYc.out wA wAbel.out
            go_wp2_with (first
              | (at_builtin; refine wpList_append_items rfl _ _ rfl wg.heap.size _ (rg f t (q.take j)) rfl Oa.out _ 1 1 _ rfl Ia.out ?_ HSa.out ?_)
              | fail)
            · have := rg_len f t (q.take j); rw [List.length_take] at this; omega
            intro vB wB hoB hgB hbkB
            have OB : Hid (OwnI wB wg.heap.size vB (rg f t (q.take (j + 1)))) := hide (by rw [HRG.out, HRB.out]; exact hoB)
            have VB : Hid (Vx wB Rw z.S z.K z.T z.V z.X) := hide (by
              have c9 : Ch (fun b => wg.heap.size ≤ b) (wA.alloc (Obj.cells #[Value.int IntKind.i64 S4, Value.int IntKind.i64 K4, Value.int IntKind.u64 T4, Value.int IntKind.u64 V4, Value.int IntKind.i64 X4] 25)) wB := ⟨hgB.os, hgB.tape, hgB.output, hgB.size, fun k hk hp => hgB.block k hk (fun e => hp (hbkB k e.symm))⟩
              exact vx_ch (VA.out.keep Aa.out) c9 (by have := HRw.out; omega))
            have wBbel : Hid (Below we.heap.size we wB) := hide ((wAbel.out.trans (Aa.out.mono wAbel.out.size)).grown hgB (Nat.le_trans wAbel.out.size Aa.out.size) (fun k hk => Nat.le_trans Hge.out (hbkB k hk)))
            have HgB : Hid (wg.heap.size ≤ wB.heap.size) := hide (Nat.le_trans HSa.out hgB.size)
            clear hoB hgB hbkB OA Oa Ia r0 r1 r2 r3 r4
            cases s3 with
            | false =>
              have HS3 := hide hs3
              have HS4 : Hid ((⟨S4, K4, T4, V4, X4⟩ : It).same x = false) := hide hs3
              have TWB := hide (TWe.out.keep wBbel.out)
              have hneB : Nonempty (Kp wB) := ⟨⟨_, Below.refl _ _⟩⟩
              have cS : Hid (∀ p : Kp wB, Calls Tryz.prog 21 #[.agg #[Value.int IntKind.i64 S4, Value.int IntKind.i64 K4, Value.int IntKind.u64 T4, Value.int IntKind.u64 V4, Value.int IntKind.i64 X4], .agg #[Value.int IntKind.i64 x.S, Value.int IntKind.i64 x.K, Value.int IntKind.u64 x.T, Value.int IntKind.u64 x.V, Value.int IntKind.i64 x.X]] p.W fun e w'' => e = .returned (.bool false) ∧ ∃ p' : Kp wB, w'' = p'.W) := hide fun p => kp_call (by rw [← HS3.out]; exact refsame_any S4 K4 T4 V4 X4 x.S x.K x.T x.V x.X _)
              have d0 : ∀ p : Kp wB, p.W.cell? ⟨bq, oq + j * 5, none⟩ = some (.int .i64 S4) := fun p => ((hYc.out p.W (by first | exact wBbel.out.trans (p.h.mono wBbel.out.size))).1)
              have d1 : ∀ p : Kp wB, p.W.cell? ⟨bq, oq + j * 5 + 1, none⟩ = some (.int .i64 K4) := fun p => ((hYc.out p.W (by first | exact wBbel.out.trans (p.h.mono wBbel.out.size))).2.1)
              have d2 : ∀ p : Kp wB, p.W.cell? ⟨bq, oq + j * 5 + 2, none⟩ = some (.int .u64 T4) := fun p => ((hYc.out p.W (by first | exact wBbel.out.trans (p.h.mono wBbel.out.size))).2.2.1)
              have d3 : ∀ p : Kp wB, p.W.cell? ⟨bq, oq + j * 5 + 3, none⟩ = some (.int .u64 V4) := fun p => ((hYc.out p.W (by first | exact wBbel.out.trans (p.h.mono wBbel.out.size))).2.2.2.1)
              have d4 : ∀ p : Kp wB, p.W.cell? ⟨bq, oq + j * 5 + 4, none⟩ = some (.int .i64 X4) := fun p => ((hYc.out p.W (by first | exact wBbel.out.trans (p.h.mono wBbel.out.size))).2.2.2.2)
              have e0 : ∀ p : Kp wB, p.W.cell? ⟨R + 1, 0, none⟩ = some (.int .i64 f.S) := fun p => by simpa using (TWB.out.vf.keep p.h).1
              have e1 : ∀ p : Kp wB, p.W.cell? ⟨R + 1, 1, none⟩ = some (.int .i64 f.K) := fun p => by simpa using (TWB.out.vf.keep p.h).2.1
              have e2 : ∀ p : Kp wB, p.W.cell? ⟨R + 1, 2, none⟩ = some (.int .u64 f.T) := fun p => by simpa using (TWB.out.vf.keep p.h).2.2.1
              have e3 : ∀ p : Kp wB, p.W.cell? ⟨R + 1, 3, none⟩ = some (.int .u64 f.V) := fun p => by simpa using (TWB.out.vf.keep p.h).2.2.2.1
              have e4 : ∀ p : Kp wB, p.W.cell? ⟨R + 1, 4, none⟩ = some (.int .i64 f.X) := fun p => by simpa using (TWB.out.vf.keep p.h).2.2.2.2
              have g0 : ∀ p : Kp wB, p.W.cell? ⟨R + 2, 0, none⟩ = some (.int .i64 t.S) := fun p => by simpa using (TWB.out.vt.keep p.h).1
              have g1 : ∀ p : Kp wB, p.W.cell? ⟨R + 2, 1, none⟩ = some (.int .i64 t.K) := fun p => by simpa using (TWB.out.vt.keep p.h).2.1
              have g2 : ∀ p : Kp wB, p.W.cell? ⟨R + 2, 2, none⟩ = some (.int .u64 t.T) := fun p => by simpa using (TWB.out.vt.keep p.h).2.2.1
              have g3 : ∀ p : Kp wB, p.W.cell? ⟨R + 2, 3, none⟩ = some (.int .u64 t.V) := fun p => by simpa using (TWB.out.vt.keep p.h).2.2.2.1
              have g4 : ∀ p : Kp wB, p.W.cell? ⟨R + 2, 4, none⟩ = some (.int .i64 t.X) := fun p => by simpa using (TWB.out.vt.keep p.h).2.2.2.2
              have k0 : ∀ p : Kp wB, p.W.cell? ⟨R, 0, none⟩ = some (.int .i64 x.S) := fun p => by simpa using (TWB.out.vx.keep p.h).1
              have k1 : ∀ p : Kp wB, p.W.cell? ⟨R, 1, none⟩ = some (.int .i64 x.K) := fun p => by simpa using (TWB.out.vx.keep p.h).2.1
              have k2 : ∀ p : Kp wB, p.W.cell? ⟨R, 2, none⟩ = some (.int .u64 x.T) := fun p => by simpa using (TWB.out.vx.keep p.h).2.2.1
              have k3 : ∀ p : Kp wB, p.W.cell? ⟨R, 3, none⟩ = some (.int .u64 x.V) := fun p => by simpa using (TWB.out.vx.keep p.h).2.2.2.1
              have k4 : ∀ p : Kp wB, p.W.cell? ⟨R, 4, none⟩ = some (.int .i64 x.X) := fun p => by simpa using (TWB.out.vx.keep p.h).2.2.2.2
              go_wp2_with fail
              refine wp_region_kept (by kernel_rfl) (by kernel_rfl) ?_
              repeat (first
                | go_big_quiet_step (first | (go_at_call 21; exact cS.out _))
                | fail)
              refine wpQuiet_nil ?_
              intro wC hw'
              have hbC : Hid (Below wB.heap.size wB wC) := by
                obtain ⟨⟨w7', hb7⟩, hw''⟩ := hw'
                rw [hw'']; exact hide hb7
              have wCbel := hide (wBbel.out.trans (hbC.out.mono wBbel.out.size))
              have HgC := hide (Nat.le_trans HgB.out hbC.out.size)
              have OC := hide (ownI_keep OB.out hbC.out)
              have VC := hide (VB.out.keep hbC.out)
              clear hw' hneB cS d0 d1 d2 d3 d4 e0 e1 e2 e3 e4 g0 g1 g2 g3 g4 k0 k1 k2 k3 k4
              obtain ⟨r0, r1, r2, r3, r4⟩ := hYc.out wC wCbel.out
              obtain ⟨wD, hwD⟩ : ∃ wD, wD = wC := ⟨_, rfl⟩
              subst hwD
              have VD := VC
              have OD := OC
              have wDbel := wCbel
              have TWD := hide (TWe.out.keep wDbel.out)
              have HgD := HgC
              obtain ⟨BD, dD, htD⟩ := TWD.out.tb
              have hMy := hide (show Calls Tryz.prog 22 #[.pointer (some ⟨M, 0, none⟩), .agg #[Value.int IntKind.i64 S4, Value.int IntKind.i64 K4, Value.int IntKind.u64 T4, Value.int IntKind.u64 V4, Value.int IntKind.i64 X4]] wD fun e w' => e = .returned (.bool true) ∧ Below wD.heap.size wD w' from by
                have := tmay_any wD M dD BD q htD (⟨S4, K4, T4, V4, X4⟩ : It) HWY.out
                rw [HMB.out] at this; exact this)
              clear htD
              go_wp2_with fail
              clear r0 r1 r2 r3 r4
              refine hMy.out.mono ?_
              rintro e wE ⟨rfl, hbE⟩
              have OE := hide (ownI_keep OD.out hbE)
              have VE := hide (VD.out.keep hbE)
              have wEbel := hide (wDbel.out.trans (hbE.mono wDbel.out.size))
              have HgE := hide (Nat.le_trans HgD.out hbE.size)
              clear hMy hbE
              go_wp2
              go_roundw
              case rel => exact ⟨j + 1, ob, by omega, by go_num, rfl, hide (by rw [HFD.out, HS4.out]; exact hob.out), OE, hide ⟨z, by rw [HFD.out, HS4.out]; exact hz, VE.out⟩, wEbel, HgE⟩
              case measure => simp [intOf]; omega
            | true =>
              have HS3 := hide hs3
              have HS4 : Hid ((⟨S4, K4, T4, V4, X4⟩ : It).same x = true) := hide hs3
              have TWB := hide (TWe.out.keep wBbel.out)
              have hneB : Nonempty (Kp wB) := ⟨⟨_, Below.refl _ _⟩⟩
              have cS : Hid (∀ p : Kp wB, Calls Tryz.prog 21 #[.agg #[Value.int IntKind.i64 S4, Value.int IntKind.i64 K4, Value.int IntKind.u64 T4, Value.int IntKind.u64 V4, Value.int IntKind.i64 X4], .agg #[Value.int IntKind.i64 x.S, Value.int IntKind.i64 x.K, Value.int IntKind.u64 x.T, Value.int IntKind.u64 x.V, Value.int IntKind.i64 x.X]] p.W fun e w'' => e = .returned (.bool true) ∧ ∃ p' : Kp wB, w'' = p'.W) := hide fun p => kp_call (by rw [← HS3.out]; exact refsame_any S4 K4 T4 V4 X4 x.S x.K x.T x.V x.X _)
              have d0 : ∀ p : Kp wB, p.W.cell? ⟨bq, oq + j * 5, none⟩ = some (.int .i64 S4) := fun p => ((hYc.out p.W (by first | exact wBbel.out.trans (p.h.mono wBbel.out.size))).1)
              have d1 : ∀ p : Kp wB, p.W.cell? ⟨bq, oq + j * 5 + 1, none⟩ = some (.int .i64 K4) := fun p => ((hYc.out p.W (by first | exact wBbel.out.trans (p.h.mono wBbel.out.size))).2.1)
              have d2 : ∀ p : Kp wB, p.W.cell? ⟨bq, oq + j * 5 + 2, none⟩ = some (.int .u64 T4) := fun p => ((hYc.out p.W (by first | exact wBbel.out.trans (p.h.mono wBbel.out.size))).2.2.1)
              have d3 : ∀ p : Kp wB, p.W.cell? ⟨bq, oq + j * 5 + 3, none⟩ = some (.int .u64 V4) := fun p => ((hYc.out p.W (by first | exact wBbel.out.trans (p.h.mono wBbel.out.size))).2.2.2.1)
              have d4 : ∀ p : Kp wB, p.W.cell? ⟨bq, oq + j * 5 + 4, none⟩ = some (.int .i64 X4) := fun p => ((hYc.out p.W (by first | exact wBbel.out.trans (p.h.mono wBbel.out.size))).2.2.2.2)
              have e0 : ∀ p : Kp wB, p.W.cell? ⟨R + 1, 0, none⟩ = some (.int .i64 f.S) := fun p => by simpa using (TWB.out.vf.keep p.h).1
              have e1 : ∀ p : Kp wB, p.W.cell? ⟨R + 1, 1, none⟩ = some (.int .i64 f.K) := fun p => by simpa using (TWB.out.vf.keep p.h).2.1
              have e2 : ∀ p : Kp wB, p.W.cell? ⟨R + 1, 2, none⟩ = some (.int .u64 f.T) := fun p => by simpa using (TWB.out.vf.keep p.h).2.2.1
              have e3 : ∀ p : Kp wB, p.W.cell? ⟨R + 1, 3, none⟩ = some (.int .u64 f.V) := fun p => by simpa using (TWB.out.vf.keep p.h).2.2.2.1
              have e4 : ∀ p : Kp wB, p.W.cell? ⟨R + 1, 4, none⟩ = some (.int .i64 f.X) := fun p => by simpa using (TWB.out.vf.keep p.h).2.2.2.2
              have g0 : ∀ p : Kp wB, p.W.cell? ⟨R + 2, 0, none⟩ = some (.int .i64 t.S) := fun p => by simpa using (TWB.out.vt.keep p.h).1
              have g1 : ∀ p : Kp wB, p.W.cell? ⟨R + 2, 1, none⟩ = some (.int .i64 t.K) := fun p => by simpa using (TWB.out.vt.keep p.h).2.1
              have g2 : ∀ p : Kp wB, p.W.cell? ⟨R + 2, 2, none⟩ = some (.int .u64 t.T) := fun p => by simpa using (TWB.out.vt.keep p.h).2.2.1
              have g3 : ∀ p : Kp wB, p.W.cell? ⟨R + 2, 3, none⟩ = some (.int .u64 t.V) := fun p => by simpa using (TWB.out.vt.keep p.h).2.2.2.1
              have g4 : ∀ p : Kp wB, p.W.cell? ⟨R + 2, 4, none⟩ = some (.int .i64 t.X) := fun p => by simpa using (TWB.out.vt.keep p.h).2.2.2.2
              have k0 : ∀ p : Kp wB, p.W.cell? ⟨R, 0, none⟩ = some (.int .i64 x.S) := fun p => by simpa using (TWB.out.vx.keep p.h).1
              have k1 : ∀ p : Kp wB, p.W.cell? ⟨R, 1, none⟩ = some (.int .i64 x.K) := fun p => by simpa using (TWB.out.vx.keep p.h).2.1
              have k2 : ∀ p : Kp wB, p.W.cell? ⟨R, 2, none⟩ = some (.int .u64 x.T) := fun p => by simpa using (TWB.out.vx.keep p.h).2.2.1
              have k3 : ∀ p : Kp wB, p.W.cell? ⟨R, 3, none⟩ = some (.int .u64 x.V) := fun p => by simpa using (TWB.out.vx.keep p.h).2.2.2.1
              have k4 : ∀ p : Kp wB, p.W.cell? ⟨R, 4, none⟩ = some (.int .i64 x.X) := fun p => by simpa using (TWB.out.vx.keep p.h).2.2.2.2
              go_wp2_with fail
              refine wp_region_kept (by kernel_rfl) (by kernel_rfl) ?_
              repeat (first
                | go_big_quiet_step (first | (go_at_call 21; exact cS.out _))
                | fail)
              refine wpQuiet_nil ?_
              intro wC hw'
              have hbC : Hid (Below wB.heap.size wB wC) := by
                obtain ⟨⟨w7', hb7⟩, hw''⟩ := hw'
                rw [hw'']; exact hide hb7
              have wCbel := hide (wBbel.out.trans (hbC.out.mono wBbel.out.size))
              have HgC := hide (Nat.le_trans HgB.out hbC.out.size)
              have OC := hide (ownI_keep OB.out hbC.out)
              have VC := hide (VB.out.keep hbC.out)
              clear hw' hneB cS d0 d1 d2 d3 d4 e0 e1 e2 e3 e4 g0 g1 g2 g3 g4 k0 k1 k2 k3 k4
              obtain ⟨r0, r1, r2, r3, r4⟩ := hYc.out wC wCbel.out
              have gx := VC.out
              unfold Vx Vi Vf at gx
              simp only [Nat.zero_add] at gx
              obtain ⟨⟨y0, y1, y2, y3, y4⟩, z0, z1, z2, z3, z4⟩ := gx
              have VD := hide (VC.out.put S4 K4 T4 V4 X4)
              have OD : Hid (OwnI (putI wC Rw S4 K4 T4 V4 X4) wg.heap.size vB (rg f t (q.take (j + 1)))) := hide (ownI_grown OC.out (gb_putI wC Rw S4 K4 T4 V4 X4) (fun k hk => by cases hk; exact HRw.out))
              have wDbel : Hid (Below we.heap.size we (putI wC Rw S4 K4 T4 V4 X4)) := hide (wCbel.out.grown (gb_putI wC Rw S4 K4 T4 V4 X4) wCbel.out.size (fun k hk => by cases hk; exact HRwe.out))
              obtain ⟨wD, hwD⟩ : ∃ wD, wD = putI wC Rw S4 K4 T4 V4 X4 := ⟨_, rfl⟩
              rw [← hwD] at VD OD wDbel
              have TWD := hide (TWe.out.keep wDbel.out)
              have HgD : Hid (wg.heap.size ≤ wD.heap.size) := hide (by rw [hwD]; exact Nat.le_trans HgC.out (gb_putI wC Rw S4 K4 T4 V4 X4).size)
              obtain ⟨BD, dD, htD⟩ := TWD.out.tb
              have hMy := hide (show Calls Tryz.prog 22 #[.pointer (some ⟨M, 0, none⟩), .agg #[Value.int IntKind.i64 S4, Value.int IntKind.i64 K4, Value.int IntKind.u64 T4, Value.int IntKind.u64 V4, Value.int IntKind.i64 X4]] wD fun e w' => e = .returned (.bool true) ∧ Below wD.heap.size wD w' from by
                have := tmay_any wD M dD BD q htD (⟨S4, K4, T4, V4, X4⟩ : It) HWY.out
                rw [HMB.out] at this; exact this)
              have hbR : bq ≠ Rw := HbR.out
              have hwDx := hwD
              unfold putI at hwDx
              clear htD hwD
              go_wp2_with fail
              rw [← hwDx]
              clear hwDx y0 y1 y2 y3 y4 z0 z1 z2 z3 z4 r0 r1 r2 r3 r4
              refine hMy.out.mono ?_
              rintro e wE ⟨rfl, hbE⟩
              have OE := hide (ownI_keep OD.out hbE)
              have VE := hide (VD.out.keep hbE)
              have wEbel := hide (wDbel.out.trans (hbE.mono wDbel.out.size))
              have HgE := hide (Nat.le_trans HgD.out hbE.size)
              clear hMy hbE
              go_wp2
              go_roundw
              case rel => exact ⟨j + 1, true, by omega, by go_num, rfl, hide (by rw [HFD.out, HS4.out]; rfl), OE, hide ⟨(⟨S4, K4, T4, V4, X4⟩ : It), by rw [HFD.out, HS4.out]; rfl, VE.out⟩, wEbel, HgE⟩
              case measure => simp [intOf]; omega
      · obtain rfl : j = nq := by omega
        have hqt : Hid (q.take j = q) := hide (by rw [← HNQ.out]; exact List.take_length)
        rw [hqt.out] at hob hown hz
        have TWr := hide (TWe.out.keep wrbel.out)
        obtain ⟨Br, dr, htr⟩ := TWr.out.tb
        have HMlt : Hid (M < we.heap.size) := hide (by obtain ⟨B, d, r⟩ := TWe.out.tb; exact r.lt M r.base)
        have hG := hide ((tget_any wr M dr Br q htr x HWX.out).mono fun e w' ⟨r1, ⟨d, r2⟩, r3⟩ => show e = Ending.returned (.tuple #[.agg #[Value.int IntKind.i64 z.S, Value.int IntKind.i64 z.K, Value.int IntKind.u64 z.T, Value.int IntKind.u64 z.V, Value.int IntKind.i64 z.X], .bool ob]) ∧ (∃ B d, Tb w' M B d q) ∧ Ch (fun b => b = M) wr w' from ⟨by rw [r1, ← hz, ← hob.out]; rfl, ⟨_, d, r2⟩, r3⟩)
        have gx := TWr.out.vx
        unfold Vi at gx
        simp only [Nat.zero_add] at gx
        obtain ⟨k0, k1, k2, k3, k4⟩ := gx
        have VR := hide hvz
        clear htr hwant hz hvz hlt
        go_wp2_with fail
        refine hG.out.mono ?_
        rintro e wh ⟨rfl, hth, hch⟩
        have TWh := hide (TWr.out.ch hch hth)
        have VH := hide (vx_ch VR.out hch (by have := HMlt.out; have := HRwe.out; omega))
        have OH := hide (ownI_grown hown.out (ch_gb hch) (fun k hk => by cases hk; have := HMlt.out; have := Hge.out; omega))
        have Ai := (Below.refl _ wh).alloc (Nat.le_refl _) (Obj.cells #[Value.int IntKind.i64 z.S, Value.int IntKind.i64 z.K, Value.int IntKind.u64 z.T, Value.int IntKind.u64 z.V, Value.int IntKind.i64 z.X] 25)
        obtain ⟨wi, hwi⟩ : ∃ wi, wi = wh.alloc (Obj.cells #[Value.int IntKind.i64 z.S, Value.int IntKind.i64 z.K, Value.int IntKind.u64 z.T, Value.int IntKind.u64 z.V, Value.int IntKind.i64 z.X] 25) := ⟨_, rfl⟩
        rw [← hwi] at Ai
        have TWi := hide (TWh.out.keep Ai)
        have OI := hide (ownI_keep OH.out Ai)
        obtain ⟨Bi, di, hti⟩ := TWi.out.tb
        obtain ⟨ain, cin, hu20, hcin, hIin, hbin⟩ := ownI_is OI.out (fun y hy => HT.out.wf y (List.mem_filter.1 hy).1)
        subst hu20
        obtain ⟨nin, hnin⟩ : ∃ nin, (rg f t q).length = nin := ⟨_, rfl⟩
        rw [hnin] at hIin ⊢
        have HII := hide (fun W (hW : Ch (fun b => b = M) wi W) => hIin.ch hW (fun h0 y hy e => by have := hbin y hy; have := HMlt.out; have := Hge.out; omega))
        have hRg := hide ((trange_any wi M di Bi q hti f t).mono fun e w' ⟨a, n, c, r1, r2, r3, r4, r5⟩ => show ∃ a n c, e = Ending.returned (.slice a n c) ∧ Is w' a n c (rg f t q) ∧ c ≤ 9223372036854775807 ∧ Ch (fun b => b = M) wi w' from ⟨a, n, c, r1, r2, r3, r5⟩)
        have gx := VH.out.1
        unfold Vi at gx
        simp only [Nat.zero_add] at gx
        obtain ⟨y0, y1, y2, y3, y4⟩ := gx
        have gx := TWh.out.vf
        unfold Vi at gx
        simp only [Nat.zero_add] at gx
        obtain ⟨e0, e1, e2, e3, e4⟩ := gx
        have gx := TWh.out.vt
        unfold Vi at gx
        simp only [Nat.zero_add] at gx
        obtain ⟨g0, g1, g2, g3, g4⟩ := gx
        have hl1 : Rw < wh.heap.size := VH.out.lt
        have hl2 : R + 1 < wh.heap.size := TWh.out.vf.lt
        have hl3 : R + 2 < wh.heap.size := TWh.out.vt.lt
        have hbb : (ob == ob) = true := by simp
        have hni : nin ≤ 9223372036854775807 := Nat.le_trans hIin.2.1.1 hcin
        clear hG hth hch Ai hti hIin hbin k0 k1 k2 k3 k4 hnin
        go_wp2_with fail
        rw [← hwi]
        clear hwi hl1 hl2 hl3 y0 y1 y2 y3 y4 e0 e1 e2 e3 e4 g0 g1 g2 g3 g4
        refine hRg.out.mono ?_
        rintro e wj ⟨aj, nj, cj, rfl, hIj, hcj, hchj⟩
        have TWj := hide (show Below w.heap.size w wj from Clep.Below.ch TWi.out.bel hchj TWi.out.bel.size (fun i hi => by rw [hi]; exact TWi.out.nM.1))
        have hEq := hide ((refequal_any aj ain nj cj nin cin (rg f t q) (rg f t q) wj hIj (HII.out wj hchj) (Nat.le_trans hIj.2.1.1 hcj) hni).mono fun e w' ⟨o, r1, r2, r3⟩ => show e = Ending.returned (.bool true) ∧ Below wj.heap.size wj w' from ⟨by rw [r1, r2.2 rfl], r3⟩)
        clear hRg hIj hcj hchj
        go_wp2_with fail
        refine hEq.out.mono ?_
        rintro e wk ⟨rfl, hbk⟩
        have Bk := hide (bmore TWj.out hbk)
        clear hEq hbk
        go_wp2_with (first | (go_at_call 9; refine (qawake_any _).mono ?_; rintro e wl ⟨rfl, hbl⟩))
        go_ret
        exact ⟨rfl, bmore Bk.out hbl⟩
end Go.Proofs.YtodhljiboakjnaaGreat.Clep
