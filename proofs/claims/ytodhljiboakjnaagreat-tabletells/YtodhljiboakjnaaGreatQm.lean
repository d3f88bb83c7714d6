/- What the document's own Table does when called. Conditions: items of which there is a table. -/
import Derived.Test.YtodhljiboakjnaaGreatQa
import Derived.Test.YtodhljiboakjnaaGreatBd
import Derived.Test.YtodhljiboakjnaaGreatZw
namespace Go.Proofs.YtodhljiboakjnaaGreat.Clep
open Go.RowKit
set_option linter.unusedVariables false

theorem str_add (a b : List Int) (W : World) (h1 : a.length ≤ 100000) (h2 : b.length ≤ 100000) : (Op.stringOp .add (strOfNums a) (strOfNums b)).run Tryz.prog W = .ok (.string (strOfNums (a ++ b))) W := by
  rw [← str_app]
  exact run_string_add_sum W _ _ (by rw [str_size, str_size]; omega)
set_option maxRecDepth 100000 in
set_option maxHeartbeats 4000000 in
theorem reftab_any (a : Option Addr) (n c : Nat) (l : List It) (w : World) (h : Is w a n c l) (hT : TOk l) (hc : c ≤ 9223372036854775807) :
    Calls Tryz.prog 13 #[.slice a n c] w fun e w' => e = .returned (.string (strOfNums (tb l))) ∧ Below w.heap.size w w' := by
  have hln := h.1
  have hn : n ≤ 2000 := by have := hT.len; omega
  have hcut := hide (rcut_any a n c l 20 w h (by omega) hc)
  have HI := hide (fun W (hW : Below w.heap.size w W) => h.below hW (Nat.le_refl _))
  have HT := hide hT
  clear h hT
  go_enter Tryz.func13, Tryz.ntmps13
  go_wp2_with fail
  refine hcut.out.mono ?_
  rintro e w1 ⟨a', c', rfl, hb1, zs, hr, hzl⟩
  rw [show csz 20 = 20 from rfl] at hr hzl ⊢
  have hnb0 : Hid (cnr 20 n = nb l) := hide (by unfold nb; rw [hln])
  rw [hnb0.out] at hr ⊢
  obtain ⟨N, hN⟩ : ∃ N, nb l = N := ⟨_, rfl⟩
  have HN := hide hN
  rw [hN] at hr ⊢
  have hNn : N ≤ 100 := by rw [← hN]; exact nb_le HT.out.len
  have HRW := hide (fun W (hW : Below w1.heap.size w1 W) => hr.below hW (Nat.le_refl _))
  have HZL := hide hzl
  have HZN := hide hr.1
  have B1 := hide hb1
  have hlt1 : Hid (∀ j, j < N ↔ j * 20 < n) := hide (fun j => by have := nb_lt (l := l) (j := j); rw [HN.out, hln] at this; exact this)
  clear hr hzl hb1 hcut hN hnb0
  go_wp2_with fail
  go_loopw [3, 4, 6] (fun s x i wr => ∃ j : Nat, j ≤ N ∧ i = .int .i64 j ∧ s = .string (strOfNums (bls l j)) ∧ x = .string (strOfNums (ixs l j)) ∧ Hid (Below w1.heap.size w1 wr)) (fun _ _ i _ => N - (intOf i).toNat)
  case atStart => exact ⟨0, by omega, rfl, rfl, rfl, hide (Below.refl _ _)⟩
  case round =>
    obtain ⟨j, hj, rfl, rfl, rfl, hbl⟩ := hrel
    by_cases hlt : j < N
    · obtain ⟨b', off', ea, hcell⟩ := (HRW.out _ hbl.out).2.2.2 (by omega)
      subst ea
      obtain ⟨z, hz⟩ : ∃ z, zs[j]? = some z := ⟨_, List.getElem?_eq_getElem (by rw [HZN.out]; exact hlt)⟩
      have cz := hcell j z hz
      have hzI := ((HRW.out _ hbl.out).2.2.1 z (List.mem_of_getElem? hz)).1
      have hz2 := HZL.out j z hz
      obtain ⟨az, nz, cz', lz⟩ := z
      simp only at cz hzI hz2
      subst hz2
      have hnz : 1 ≤ nz ∧ nz ≤ 20 := by
        have h1 := hzI.1
        rw [ck_len] at h1
        have := (hlt1.out j).1 hlt
        omega
      obtain ⟨bz, oz', ez, -⟩ := hzI.2.2.2 (by omega)
      subst ez
      have hcz := hzI.2.1.1
      have HZI := hide hzI
      have L1 := bls_len l j
      have L2 := ixs_len l j
      have L3 := pu_len ((bls l j).length : Nat)
      have L4 := ibn1 ((ck 20 l j).take 1) (by rw [List.length_take]; omega)
      have L5 := ibn20 (ck 20 l j) (by rw [ck_len]; omega)
      have a1 : ∀ W : World, (Op.stringOp .add (strOfNums (ixs l j)) (strOfNums (pu ((bls l j).length : Nat)))).run Tryz.prog W = .ok (.string (strOfNums (ixs l j ++ pu ((bls l j).length : Nat)))) W := fun W => str_add _ _ W (by omega) (by omega)
      have a2 : ∀ W : World, (Op.stringOp .add (strOfNums (ixs l j ++ pu ((bls l j).length : Nat))) (strOfNums (ibn ((ck 20 l j).take 1)))).run Tryz.prog W = .ok (.string (strOfNums (ixs l (j + 1)))) W := fun W => str_add _ _ W (by rw [List.length_append]; omega) (by omega)
      have a3 : ∀ W : World, (Op.stringOp .add (strOfNums (bls l j)) (strOfNums (bkb (ck 20 l j)))).run Tryz.prog W = .ok (.string (strOfNums (bls l (j + 1)))) W := fun W => str_add _ _ W (by omega) (by rw [bkb_len]; omega)
      have z1 : (strOfNums (bls l j)).size = (bls l j).length := str_size _
      have z2 : (strOfNums (ixs l j)).size ≤ 5200 := by rw [str_size]; omega
      have z3 : (strOfNums (pu ((bls l j).length : Nat))).size ≤ 10 := by rw [str_size]; omega
      have z4 : (strOfNums (ixs l j ++ pu ((bls l j).length : Nat))).size ≤ 5300 := by rw [str_size, List.length_append]; omega
      have z5 : (strOfNums (ibn ((ck 20 l j).take 1))).size ≤ 42 := by rw [str_size]; omega
      have z6 : (strOfNums (bkb (ck 20 l j))).size ≤ 662 := by rw [str_size, bkb_len]; omega
      have hN1 := hide (fun p : Kp wr => kp_call (refnum_any p.W ((bls l j).length : Nat) (by omega) (by omega)))
      have hBy := hide (fun p : Kp wr => kp_call (refbytes_any (some ⟨bz, oz', none⟩) 1 cz' ((ck 20 l j).take 1) p.W (by omega) (by
        have := (hzI.below p.h (Nat.le_refl _)).cut 0 1 (by omega) hnz.1
        rw [List.drop_zero, Nat.sub_zero, Nat.sub_zero] at this
        have e : icut (some ⟨bz, oz', none⟩) cz' 0 = some ⟨bz, oz', none⟩ := by unfold icut; split <;> simp [add_plain]
        rwa [e] at this)))
      have hBk := hide (fun W (hW : Below wr.heap.size wr W) => block_any (some ⟨bz, oz', none⟩) nz cz' (ck 20 l j) W (hzI.below hW (Nat.le_refl _)) (by omega))
      have hsl : ∀ W : World, (Instr.sliceAt 22 (.slice (some ⟨bz, oz', none⟩) nz cz') none (some (.int .i64 1)) none).run Tryz.prog W = .ok (.slice (some ⟨bz, oz', none⟩) 1 cz') W := fun W => by
        have := icut_h W (some ⟨bz, oz', none⟩) nz cz' .i64 1 (by omega) (by omega)
        have e : icut (some ⟨bz, oz', none⟩) cz' 0 = some ⟨bz, oz', none⟩ := by unfold icut; split <;> simp [add_plain]
        rw [e] at this; exact this
      have hm1 : (bls l j).length ≤ 66200 := by omega
      generalize (bls l j).length = m1 at *
      generalize strOfNums (bls l j) = s1 at *
      generalize strOfNums (ixs l j ++ pu (m1 : Nat)) = s4 at *
      generalize strOfNums (ixs l j) = s2 at *
      generalize strOfNums (pu (m1 : Nat)) = s3 at *
      generalize strOfNums (ibn ((ck 20 l j).take 1)) = s5 at *
      generalize strOfNums (bkb (ck 20 l j)) = s6 at *
      generalize hs7 : strOfNums (ixs l (j + 1)) = s7 at *
      generalize hs8 : strOfNums (bls l (j + 1)) = s8 at *
      have HS7 := hide hs7
      have HS8 := hide hs8
      have q0 : ∀ p : Kp wr, p.W.cell? ⟨b', off' + j, none⟩ = some (.slice (some ⟨bz, oz', none⟩) nz cz') := fun p => (p.h.cell (p := ⟨b', off' + j, none⟩) (World.block_lt_of_cell? wr _ cz)).trans cz
      have hji : (j : Int) < (N : Int) := by omega
      have hne : Nonempty (Kp wr) := ⟨⟨_, Below.refl _ _⟩⟩
      clear hcell hz hzI L1 L2 L3 L4 L5 hs7 hs8
      go_wp2_with fail
      refine wp_region_kept (by kernel_rfl) (by kernel_rfl) ?_
      repeat (first
        | go_big_quiet_step (first | (go_at_call 33; exact hN1.out _) | (go_at_call 34; exact hBy.out _))
        | fail)
      refine wpQuiet_nil ?_
      intro w3 hw'
      have hb3 : Hid (Below wr.heap.size wr w3) := by
        obtain ⟨⟨w3', hb3⟩, hw''⟩ := hw'
        rw [hw'']; exact hide hb3
      have q3 := q0 ⟨w3, hb3.out⟩
      simp only at q3
      clear hw' hne hN1 hBy q0 hsl
      go_wp2_with fail
      refine (hBk.out _ hb3.out).mono ?_
      rintro e w4 ⟨rfl, hb4⟩
      have B4 := hide (hbl.out.trans ((bmore hb3.out hb4).mono hbl.out.size))
      clear hBk hb4 q3
      go_wp2
      go_roundw
      case rel => exact ⟨j + 1, by omega, by go_num, by rw [HS8.out], by rw [HS7.out], B4⟩
      case measure => simp [intOf]; omega
    · obtain rfl : j = N := by omega
      obtain ⟨W5, hW5⟩ : ∃ W5, W5 = wr := ⟨_, rfl⟩
      subst hW5
      have B5 := hide (B1.out.trans (hbl.out.mono B1.out.size))
      have hNw := hide (refnew_ok n 10 W5 (by omega) (by omega))
      rw [show bls l j = tA l from by unfold tA; rw [HN.out], show ixs l j = tI l from by unfold tI; rw [HN.out]]
      have LA := tA_len HT.out
      have LI := tI_len HT.out
      have LF := tF_len HT.out
      have LB := tB_len HT.out
      have LC := tC_len HT.out
      have LE := tE_len l
      have hsz := tS_rng HT.out
      have hb1 : ∀ W : World, (Op.stringOp .add (strOfNums (tA l)) (strOfNums (fr 3 (tI l)))).run Tryz.prog W = .ok (.string (strOfNums (tB l))) W := fun W => str_add _ _ W (by omega) (by rw [fr_len]; omega)
      have hb2 : ∀ W : World, (Op.stringOp .add (strOfNums (tB l)) (strOfNums (fr 4 (tF l)))).run Tryz.prog W = .ok (.string (strOfNums (tC l))) W := fun W => str_add _ _ W (by omega) (by rw [fr_len]; omega)
      have hb3 : ∀ W : World, (Op.stringOp .add (strOfNums (tC l)) (strOfNums (fr 5 (tE l)))).run Tryz.prog W = .ok (.string (strOfNums (tb l))) W := fun W => str_add _ _ W (by omega) (by rw [fr_len]; omega)
      have p1 := pu_len ((tA l).length : Nat)
      have p2 := pu_len ((tB l).length : Nat)
      have p3 := pu_len (l.length : Nat)
      have hb4 : ∀ W : World, (Op.stringOp .add (strOfNums (pu ((tA l).length : Nat))) (strOfNums (pu ((tB l).length : Nat)))).run Tryz.prog W = .ok (.string (strOfNums (pu ((tA l).length : Nat) ++ pu ((tB l).length : Nat)))) W := fun W => str_add _ _ W (by omega) (by omega)
      have hb5 : ∀ W : World, (Op.stringOp .add (strOfNums (pu ((tA l).length : Nat) ++ pu ((tB l).length : Nat))) (strOfNums (pu (l.length : Nat)))).run Tryz.prog W = .ok (.string (strOfNums (tE l))) W := fun W => str_add _ _ W (by rw [List.length_append]; omega) (by omega)
      have y1 : (strOfNums (tA l)).size = (tA l).length := str_size _
      have y2 : (strOfNums (tB l)).size = (tB l).length := str_size _
      have y3 : (strOfNums (tC l)).size ≤ 74100 := by rw [str_size]; omega
      have y4 : (strOfNums (fr 3 (tI l))).size ≤ 5300 := by rw [str_size, fr_len]; omega
      have y5 : (strOfNums (fr 4 (tF l))).size ≤ 2600 := by rw [str_size, fr_len]; omega
      have y6 : (strOfNums (fr 5 (tE l))).size ≤ 50 := by rw [str_size, fr_len]; omega
      have y7 : (strOfNums (pu ((tA l).length : Nat))).size ≤ 10 := by rw [str_size]; omega
      have y8 : (strOfNums (pu ((tB l).length : Nat))).size ≤ 10 := by rw [str_size]; omega
      have y9 : (strOfNums (pu (l.length : Nat))).size ≤ 10 := by rw [str_size]; omega
      have y0 : (strOfNums (pu ((tA l).length : Nat) ++ pu ((tB l).length : Nat))).size ≤ 20 := by rw [str_size, List.length_append]; omega
      have f3 := hide (fun W => refframe_any 3 (strOfNums (tI l)) (tI l) W (by omega) (by omega) rfl (by omega) (tI_range HT.out))
      have f4 := hide (fun W => refframe_any 4 (strOfNums (tF l)) (tF l) W (by omega) (by omega) rfl (by omega) (tF_range HT.out))
      have f5 := hide (fun W => refframe_any 5 (strOfNums (tE l)) (tE l) W (by omega) (by omega) rfl (by omega) (tE_range HT.out))
      have u1 := hide (fun W => refnum_any W ((tA l).length : Nat) (by omega) (by omega))
      have u2 := hide (fun W => refnum_any W ((tB l).length : Nat) (by omega) (by omega))
      have u3 := hide (fun W => refnum_any W (l.length : Nat) (by omega) (by have := HT.out.len; omega))
      rw [hln] at hb5 y9 u3
      generalize strOfNums (pu ((tA l).length : Nat) ++ pu ((tB l).length : Nat)) = s0 at *
      generalize strOfNums (pu ((tA l).length : Nat)) = s1 at *
      generalize strOfNums (pu ((tB l).length : Nat)) = s2 at *
      generalize strOfNums (pu ((n : Nat) : Int)) = s3 at *
      generalize strOfNums (fr 3 (tI l)) = s4 at *
      generalize strOfNums (fr 4 (tF l)) = s5 at *
      generalize strOfNums (fr 5 (tE l)) = s6 at *
      generalize strOfNums (tA l) = s7 at *
      generalize strOfNums (tB l) = s8 at *
      generalize strOfNums (tC l) = s9 at *
      generalize strOfNums (tE l) = r0 at *
      generalize strOfNums (tI l) = r1 at *
      generalize hr2 : strOfNums (tb l) = r2 at *
      have HR2 := hide hr2
      clear hr2
      generalize (tA l).length = m1 at *
      generalize (tB l).length = m2 at *
      clear p1 p2 p3 LC LE LF LI
      go_wp2_with fail
      refine hNw.out.mono ?_
      rintro e w6 ⟨R, rfl, D, hRw, hb6, hR1, hD1⟩
      rw [show sOf n 10 = tS l from by unfold tS; rw [hln], show kOf 10 = 7 from rfl] at hRw
      have HRw := hide hRw
      have B6 := hide hb6
      have HRD := hide (And.intro hR1 hD1)
      have HSZ := hide hsz
      clear hNw hRw hb6 hR1 hD1 hsz
      go_wp2_with fail
      go_loopw [8] (fun i wr => ∃ k : Nat, k ≤ n ∧ i = .int .i64 k ∧ Hid (Rw wr R D 7 (tS l) (fN (tS l) (l.take k))) ∧ Hid (Below W5.heap.size W5 wr)) (fun i _ => n - (intOf i).toNat)
      case atStart => exact ⟨0, by omega, rfl, HRw, B6⟩
      case round =>
        obtain ⟨k, hk, rfl, hrw, hbk⟩ := hrel
        by_cases hlt : k < n
        · obtain ⟨b0, off, ea, hcell⟩ := (HI.out _ (B5.out.trans (hbk.out.mono B5.out.size))).2.2.2 (by omega)
          subst ea
          obtain ⟨x, hx⟩ : ∃ x, l[k]? = some x := ⟨_, List.getElem?_eq_getElem (by rw [hln]; exact hlt)⟩
          have hv := hcell k x hx
          have hwx := HT.out.wf x (List.mem_of_getElem? hx)
          have HFN : Hid (fN (tS l) (l.take (k + 1)) = addk (fnv (kb x.S x.K x.T)) (tS l) 7 (fN (tS l) (l.take k))) := hide (by
            unfold fN; rw [List.take_add_one, hx]; simp)
          obtain ⟨S, K, T, V, X⟩ := x
          unfold Vt Vi at hv
          simp only at hv HFN
          obtain ⟨v0, v1, v2, v3, v4⟩ := hv
          have cK := hide (refkey_any S K T V X wr hwx.2.2.1)
          have hkl : (strOfNums (kb S K T)).size = 10 := by rw [str_size]; exact kb_len S K T
          have cA := hide (fun W (hW : Below wr.heap.size wr W) => refadd_any W R D 7 (tS l) (fN (tS l) (l.take k)) (hrw.out.keep hW) (by omega) (by have := HSZ.out; omega) (strOfNums (kb S K T)) (kb S K T) (by omega) (sz_of _ (range_of (kb_range S K T))) (kb_range S K T))
          rw [show ([S % 256, K % 256] ++ e8 T 8) = kb S K T from rfl] at cK
          generalize strOfNums (kb S K T) = sk at *
          clear hcell hx hwx
          go_wp2_with fail
          refine cK.out.mono ?_
          rintro e w7 ⟨rfl, hb7⟩
          have B7 := hide hb7
          clear cK hb7 v0 v1 v2 v3 v4
          go_wp2_with fail
          refine (cA.out _ B7.out).mono ?_
          rintro e w8 ⟨rfl, hr8, hc8⟩
          have R8 := hide hr8
          have B8 : Hid (Below W5.heap.size W5 w8) := hide ((hbk.out.trans (B7.out.mono hbk.out.size)).trans (hc8.below (Nat.le_trans hbk.out.size B7.out.size) (fun i hi => by rw [hi]; exact HRD.out.2)))
          clear cA hr8 hc8
          go_wp2
          go_roundw
          case rel => exact ⟨k + 1, by omega, by go_num, hide (by rw [HFN.out]; exact R8.out), B8⟩
          case measure => simp [intOf]; omega
        · obtain rfl : k = n := by omega
          have hfin := hrw.out
          rw [show l.take k = l from by rw [← hln]; exact List.take_length] at hfin
          have cF := hide (fun W (hW : Below wr.heap.size wr W) => frefbytes_any W R (tS l) 7 (tS l) (fN (tS l) l) _ (hfin.keep hW).rf (by omega) (by have := HSZ.out; omega))
          rw [show strOfNums (fb 7 (tS l) (fN (tS l) l)) = strOfNums (tF l) from rfl] at cF
          generalize strOfNums (tF l) = r3 at *
          have BK := hide (B5.out.trans (hbk.out.mono B5.out.size))
          clear hfin hrw
          go_wp2_with fail
          refine (f3.out _).mono ?_
          rintro e w7 ⟨rfl, hb7⟩
          have B7 := hide hb7
          clear hb7 f3
          go_wp2_with fail
          refine (cF.out _ B7.out).mono ?_
          rintro e w8 ⟨rfl, hb8⟩
          have B8 := hide (bmore B7.out hb8)
          clear hb8 cF
          go_wp2_with fail
          refine (f4.out _).mono ?_
          rintro e w9 ⟨rfl, hb9⟩
          have B9 := hide (bmore B8.out hb9)
          clear hb9 f4
          go_wp2_with fail
          refine (u1.out _).mono ?_
          rintro e wa ⟨rfl, hba⟩
          have BA := hide (bmore B9.out hba)
          clear hba u1
          go_wp2_with fail
          refine (u2.out _).mono ?_
          rintro e wb ⟨rfl, hbb⟩
          have BB := hide (bmore BA.out hbb)
          clear hbb u2
          go_wp2_with fail
          refine (u3.out _).mono ?_
          rintro e wc ⟨rfl, hbc⟩
          have BC := hide (bmore BB.out hbc)
          clear hbc u3
          go_wp2_with fail
          refine (f5.out _).mono ?_
          rintro e wd ⟨rfl, hbd⟩
          have BD := hide (bmore BC.out hbd)
          clear hbd f5
          go_wp2
          go_ret
          exact ⟨by rw [HR2.out]; rfl, BK.out.trans (BD.out.mono BK.out.size)⟩

end Go.Proofs.YtodhljiboakjnaaGreat.Clep
