/- The document's own Disk: Crash (a walk over the translated program). For any such Disk and any numbers. -/
import Derived.Test.YtfogfpanfhmijaaGreatYt
namespace Go.Proofs.YtfogfpanfhmijaaGreat.Clep
open Go.RowKit Go.Maps
set_option linter.unusedVariables false

theorem RefIs.file' {w : World} {Q : Nat} {T : RSt} {P : Nat → Prop} {nv lv ov : Value} {gf cf i n0 : Nat} {u : Value} {fs' : List (ByteArray × Nat)} (h : RefIs w Q T P (.slice (some ⟨gf, 0, none⟩) n0 cf) nv lv ov) (hn : n0 = T.files.length)
    (e : (T.files.flatMap flC).set i u = fs'.flatMap flC) (el : fs'.length = T.files.length) (ok : ROk { T with files := fs' }) :
    RefIs (w.setCell ⟨gf, i, none⟩ u) Q { T with files := fs' } P (.slice (some ⟨gf, 0, none⟩) n0 cf) nv lv ov ∧ Chg P w (w.setCell ⟨gf, i, none⟩ u) := by
  subst hn
  exact h.file e el ok
theorem wo_far {P : Nat → Prop} {Q : Nat} {fv : Value} (v : Value) (l : List (ByteArray × Int)) (s : ByteArray) (w : World) (h : OwnN w 0 v l) (hf : ∀ g, v.ownBlock = some g → P g ∧ g ≠ Q ∧ fv.ownBlock ≠ some g) (hb : l.length ≤ 2000)
    (new : ∀ (v5 : Value) (l5 : List (ByteArray × Int)) (w5 : World), OwnN w5 w.heap.size v5 l5 → ∀ g, v5.ownBlock = some g → P g ∧ g ≠ Q ∧ fv.ownBlock ≠ some g) :
    Calls Tryz.prog 55 #[v, .string s] w fun e w' => ∃ v', e = .returned v' ∧ OwnN w' 0 v' (woF l s) ∧ (∀ g, v'.ownBlock = some g → P g ∧ g ≠ Q ∧ fv.ownBlock ≠ some g) ∧ Below w.heap.size w w' := by
  rcases atF_cases s l 0 with hA | ⟨k, hk, hA⟩
  · have HO := hide h
    have HF := hide hf
    have AT := hide (at_any v l s w (own_nm h))
    have HW := hide (show woF l s = l by unfold woF; rw [if_pos (by rw [hA]; decide)])
    rw [hA] at AT
    obtain ⟨so, sc, rfl, _⟩ := row_slice h
    clear h hA hf new
    go_enter Tryz.func55, Tryz.ntmps55
    go_wp2_with fail
    refine AT.out.mono ?_
    rintro e' w1 ⟨rfl, e2⟩
    subst e2
    go_wp2
    go_ret
    exact ⟨_, rfl, by rw [HW.out]; exact HO.out, HF.out, Below.refl _ _⟩
  · rw [Nat.zero_add] at hA
    have h0 := h
    obtain ⟨hlen, ⟨rfl, hn⟩ | ⟨g, cap, cur, rfl, hg, hh, r⟩⟩ := h0
    · omega
    · refine (without_some g cap k l s w h hA hk hb).mono ?_
      rintro e w' ⟨v', rfl, o, b⟩
      exact ⟨v', rfl, ownN_base o (Nat.zero_le _), new _ _ _ o, b⟩
theorem crash_ok {T : RSt} (h : ROk T) (ks : List Int) : ROk (crashT T ks) := by
  have hb := opsAll_bounds (ks := ks) (n := T.files.length) T.ops (crS T ks T.files 0 0).2 T.last h.fls (fun o ho => (h.fop o ho).2.2)
  have hl := crS_len T ks T.files 0 0
  have h3 := h.nls
  refine ⟨h.cal, by show (crS T ks T.files 0 0).1.length ≤ _; rw [hl]; exact h.nfl, Nat.zero_le _, Nat.le_trans hb.1 h3, Nat.le_trans hb.1 h3, by show ∀ x ∈ opsAll ks T.ops (crS T ks T.files 0 0).2 T.last, _ ∧ x.2 < ((crS T ks T.files 0 0).1.length : Int); rw [hl]; exact hb.2, by show ∀ x ∈ opsAll ks T.ops (crS T ks T.files 0 0).2 T.last, _ ∧ x.2 < ((crS T ks T.files 0 0).1.length : Int); rw [hl]; exact hb.2, fun o ho => (by cases ho), crS_siz T ks T.files 0 0 h.siz, ⟨by show (-1 : Int) ≤ -1; omega, by show (-1 : Int) ≤ 9223372036854775807; omega⟩, ⟨by show (0 : Int) ≤ 0; omega, by show (0 : Int) ≤ 9223372036854775807; omega⟩, h.quo⟩
theorem leads_files (T : RSt) (fs : List (ByteArray × Nat)) (f : Int) : leadsT { T with files := fs } f = leadsT T f := rfl

set_option maxHeartbeats 4000000 in
set_option maxRecDepth 8000 in
theorem crashT_any (Q : Nat) (T : RSt) (P : Nat → Prop) (fv nv lv ov : Value) (ka : Option Addr) (kc : Nat) (ks : List Int) (w : World) (h : RefIs w Q T P fv nv lv ov) (hP : ∀ i, w.heap.size ≤ i → P i) (hks : NumV (fun i => ¬ P i) w (.slice ka ks.length kc) ks) (hkl : ks.length ≤ 1000) :
    Calls Tryz.prog 14 #[.pointer (some ⟨Q, 0, none⟩), .slice ka ks.length kc] w fun e w' => e = .returned (.tuple #[]) ∧ RIs w' Q (crashT T ks) P ∧ Chg P w w' := by
  have H := hide h
  have HK := hide hks
  have HP := hide hP
  obtain ⟨c0, c1, c2, c3, c4, c8, fr⟩ := h.cells
  obtain ⟨foA, fcA, ef, _⟩ := row_slice h.fs
  subst ef
  have hfl : T.files.length ≤ 1000 := by have := h.ok.nfl; have := h.ok.cal; omega
  have hop : T.ops.length ≤ 1000 := by have := h.ok.nop; have := h.ok.cal; omega
  have R0 : RefIs w Q { T with files := crAt T ks 0 } P (.slice foA T.files.length fcA) nv lv ov := h
  clear h hks hP c0 c1 c2 c3 c4 c8 fr
  go_enter Tryz.func14, Tryz.ntmps14
  go_wp2
  go_loopw [4, 5] (fun u v wr => ∃ (i : Nat), u = .int .i64 (crK T ks i) ∧ v = .int .i64 i ∧ i ≤ T.files.length ∧ Hid (RefIs wr Q { T with files := crAt T ks i } P (.slice foA T.files.length fcA) nv lv ov) ∧ Hid (Chg P w wr)) (fun _ v _ => T.files.length - (intOf v).toNat)
  case atStart => exact ⟨0, rfl, rfl, by omega, hide R0, hide (Chg.refl _ _)⟩
  case round =>
    obtain ⟨i, rfl, rfl, hi, R, CH⟩ := hrel
    clear R0
    obtain ⟨c0, c1, c2, c3, c4, c8, fr⟩ := R.out.cells
    by_cases hlt : i < T.files.length
    · have hx := crAt_get T ks i hlt
      obtain ⟨d, l, hdl⟩ : ∃ d l, T.files[i]'hlt = (d, l) := ⟨_, _, rfl⟩
      rw [hdl] at hx
      have hsz := H.out.ok.siz _ (List.getElem_mem hlt)
      rw [hdl] at hsz
      have HSU := hide (crAt_succ T ks i hlt)
      rw [hdl] at HSU
      have hF := R.out.fs
      obtain ⟨hl, ⟨hn1, hn⟩ | ⟨gf, cf, cur, ee, hg, hh, r1, r2, r3, r4⟩⟩ := hF
      · have := crAt_len T ks i hi
        have hn' : (crAt T ks i).length = 0 := hn
        omega
      have hal := crAt_len T ks i hi
      injection ee with ee1 ee2 ee3
      subst ee1
      subst ee3
      clear ee2
      have hfC : ∀ j u, ((crAt T ks i).flatMap flC)[j]? = some u → wr.cell? ⟨gf, j, none⟩ = some u := fun j u hu => by
        have hc := World.ownsRow.cells R.out.fs (g := gf) rfl j u hu
        rwa [add_plain, Nat.zero_add] at hc
      obtain ⟨f1, f2⟩ := flC_at _ i _ hx
      have d1 := hfC _ _ f1
      have d2 := hfC _ _ f2
      have z1 : wr.frozen? ⟨gf, i * 2, none⟩ = false := frozen_of_row wr gf (i * 2) _ _ hh
      have z2 : wr.frozen? ⟨gf, i * 2 + 1, none⟩ = false := frozen_of_row wr gf (i * 2 + 1) _ _ hh
      have hcf : T.files.length ≤ fcA ∧ fcA ≤ 9223372036854775807 := by
        have h1 : (crAt T ks i).length ≤ fcA := r1
        unfold maxLen at r2
        omega
      obtain ⟨hcf1, hcf2⟩ := hcf
      have hkk : crK T ks i ≤ i := by have := crS_num T ks (T.files.take i) 0 0; unfold crK; rw [List.length_take] at this; omega
      have hlt' : (i : Int) < (T.files.length : Int) := by omega
      simp only at hsz
      obtain ⟨hs1, hs2⟩ := hsz
      obtain ⟨n, hn⟩ : ∃ n : Nat, n = d.size - l := ⟨_, rfl⟩
      have hni : (d.size : Int) - (l : Int) = (n : Int) := by omega
      have hwn : IntKind.i64.wrap ((d.size : Int) - (l : Int)) = (n : Int) := by
        rw [hni]
        simp [IntKind.wrap, IntKind.bits, IntKind.signed]
        omega
      have HX := hide hx
      have HN := hide hn
      clear hdl hx hl hh r1 r2 r3 r4 hfC f1 f2 hn hg hal
      generalize hKK : crK T ks i = kk at *
      have HKE := hide hKK
      clear hKK
      go_wp2_with fail
      go_region
      have Rd := hide (R.out.keep (w' := wr.drew) (P' := P) (fun i _ hi => rfl) (fun i hp _ => hp))
      have CHd := hide (CH.out.trans (Chg.of_below (P := P) (Below.refl wr.heap.size wr).drew))
      have d1' : wr.drew.cell? ⟨gf, i * 2, none⟩ = some (.string d) := d1
      have d2' : wr.drew.cell? ⟨gf, i * 2 + 1, none⟩ = some (.int .i64 (l : Int)) := d2
      have z1' : wr.drew.frozen? ⟨gf, i * 2, none⟩ = false := z1
      have z2' : wr.drew.frozen? ⟨gf, i * 2 + 1, none⟩ = false := z2
      clear d1 d2 z1 z2 c0 c1 c2 c3 c4 c8 fr R CH
      generalize wr.drew = wd at *
      by_cases hn0 : 0 < n
      · have hnn : (0 : Int) < (n : Int) := by omega
        have LD := hide (leadsT_any Q _ P _ nv lv ov (i : Int) wd Rd.out)
        rw [leads_files] at LD
        cases hld : leadsT T (i : Int) with
        | false =>
          rw [hld] at LD
          have HE := hide (show crStep T ks i (d, l) kk = ((cutB d (l + n), l + n), kk) by
            have := HN.out
            unfold crStep
            rw [if_neg (fun h => by have h2 := h.2; rw [hld] at h2; cases h2)]
            simp only
            rw [← this])
          clear hld hn0
          go_wp2_with fail
          refine LD.out.mono ?_
          rintro e w2 ⟨rfl, e2⟩
          subst e2
          have hm : l + n ≤ d.size := by have := HN.out; omega
          have hmi : ((l : Int) + (n : Int)) ≤ (d.size : Int) := by omega
          have hm0 : (0 : Int) ≤ (l : Int) + (n : Int) := by omega
          have hwm : IntKind.i64.wrap ((l : Int) + (n : Int)) = (l : Int) + (n : Int) := by
            simp [IntKind.wrap, IntKind.bits, IntKind.signed]
            omega
          go_wp2_with fail
          go_region
          have hX : (d.extract 0 (l + n)).size = l + n := cutB_size d _ hm
          have HXX : Hid (d.extract 0 (l + n) = cutB d (l + n)) := hide rfl
          have F1 := Rd.out.file' (n0 := T.files.length) (i := i * 2) (u := .string (d.extract 0 (l + n))) (fs' := (crAt T ks i).set i (d.extract 0 (l + n), l)) (crAt_len T ks i (Nat.le_of_lt hlt)).symm (flC_set0 _ _ _ _ _ HX.out) (by simp) (set_ok (crAt_ok H.out.ok ks i (Nat.le_of_lt hlt)) HX.out (by rw [hX]; omega) (by rw [hX]; omega))
          have F1d := F1.1.keep (w' := (w2.setCell ⟨gf, i * 2, none⟩ (.string (d.extract 0 (l + n)))).drew) (P' := P) (fun i _ hi => rfl) (fun i hp _ => hp)
          have F2 := F1d.file' (n0 := T.files.length) (i := i * 2 + 1) (u := .int .i64 ((d.extract 0 (l + n)).size : Nat)) (fs' := ((crAt T ks i).set i (d.extract 0 (l + n), l)).set i (d.extract 0 (l + n), (d.extract 0 (l + n)).size)) (by rw [List.length_set]; exact (crAt_len T ks i (Nat.le_of_lt hlt)).symm)
            (flC_set1 _ _ _ _ _ (by rw [List.getElem?_set_self (by rw [crAt_len T ks i (Nat.le_of_lt hlt)]; exact hlt)])) (by simp) (set_ok (set_ok (crAt_ok H.out.ok ks i (Nat.le_of_lt hlt)) HX.out (by rw [hX]; omega) (by rw [hX]; omega)) (by rw [List.getElem?_set_self (by rw [crAt_len T ks i (Nat.le_of_lt hlt)]; exact hlt)]) (by rw [hX]; omega) (Nat.le_refl _))
          have HF2 := hide F2
          have HCH := hide (CHd.out.trans (F1.2.trans ((Chg.of_below (P := P) (Below.refl (w2.setCell ⟨gf, i * 2, none⟩ (.string (d.extract 0 (l + n)))).heap.size _).drew).trans F2.2)))
          have HFIN := hide (show ((crAt T ks i).set i (d.extract 0 (l + n), l)).set i (d.extract 0 (l + n), (d.extract 0 (l + n)).size) = crAt T ks (i + 1) by
            rw [HSU.out.1, HE.out, List.set_set, hX]
            rfl)
          have HKN := hide (show crK T ks (i + 1) = kk by rw [HSU.out.2, HE.out])
          have HX2 := hide hX
          clear F1 F1d F2 hX
          generalize d.extract 0 (l + n) = X at *
          go_wp2
          go_roundw
          case rel => exact ⟨i + 1, by first | (rw [HKN.out]; done) | (rw [HKN.out]; go_num), by go_num, by omega, hide (by rw [← HFIN.out]; exact HF2.out.1), HCH⟩
          case measure => simp [intOf]; omega
        | true =>
          rw [hld] at LD
          have HE0 := hide (show crStep T ks i (d, l) kk = ((cutB d (l + cutN n ks kk), l + cutN n ks kk), kk + 1) by
            have := HN.out
            unfold crStep
            rw [if_pos ⟨by show 0 < d.size - l; omega, hld⟩]
            simp only
            rw [← this])
          clear hld
          go_wp2_with fail
          refine LD.out.mono ?_
          rintro e w2 ⟨rfl, e2⟩
          subst e2
          by_cases hkl2 : kk < ks.length
          · have hkl3 : (kk : Int) < (ks.length : Int) := by omega
            obtain ⟨ka', kc', ek, q1, q2, q3, q4⟩ := HK.out
            cases ek
            obtain ⟨kb, ko, rfl, hkp, hkc⟩ := q4 (by omega)
            have g0 := hkc kk hkl2
            have gk : w2.cell? ⟨kb, ko + kk, none⟩ = some (.int .i64 (ks.getD kk 0)) := by
              rw [World.cell?_of_block (w := w) (CHd.out.block kb (World.block_lt_of_cell? w _ g0) hkp)]
              exact g0
            have HE1 := hide (show cutN n ks kk = (((ks.getD kk 0).tmod ((n : Int) + 1) + n + 1).tmod ((n : Int) + 1)).toNat by unfold cutN; rw [if_pos hkl2])
            clear q3 hkc g0 hkp
            generalize ks.getD kk 0 = z at *
            obtain ⟨c, hc1, hc2, hc3, hc4⟩ := cut_range z n
            rw [hc1] at HE1
            have HE := hide (show crStep T ks i (d, l) kk = ((cutB d (l + c), l + c), kk + 1) by rw [HE0.out, HE1.out, Int.toNat_natCast])
            clear HE0 HE1 hkl2 q4
            have hnb : n ≤ 250000 := by have := HN.out; omega
            have hnz : ((n : Int) + 1 == 0) = false := by simp; omega
            have hm : l + c ≤ d.size := by have := HN.out; omega
            have hmi : ((l : Int) + (c : Int)) ≤ (d.size : Int) := by omega
            have hm0 : (0 : Int) ≤ (l : Int) + (c : Int) := by omega
            have hwm : IntKind.i64.wrap ((l : Int) + (c : Int)) = (l : Int) + (c : Int) := by
              simp [IntKind.wrap, IntKind.bits, IntKind.signed]
              omega
            go_wp2_with fail
            go_region
            have hX : (d.extract 0 (l + c)).size = l + c := cutB_size d _ hm
            have HXX : Hid (d.extract 0 (l + c) = cutB d (l + c)) := hide rfl
            have F1 := Rd.out.file' (n0 := T.files.length) (i := i * 2) (u := .string (d.extract 0 (l + c))) (fs' := (crAt T ks i).set i (d.extract 0 (l + c), l)) (crAt_len T ks i (Nat.le_of_lt hlt)).symm (flC_set0 _ _ _ _ _ HX.out) (by simp) (set_ok (crAt_ok H.out.ok ks i (Nat.le_of_lt hlt)) HX.out (by rw [hX]; omega) (by rw [hX]; omega))
            have F1d := F1.1.keep (w' := (w2.setCell ⟨gf, i * 2, none⟩ (.string (d.extract 0 (l + c)))).drew) (P' := P) (fun i _ hi => rfl) (fun i hp _ => hp)
            have F2 := F1d.file' (n0 := T.files.length) (i := i * 2 + 1) (u := .int .i64 ((d.extract 0 (l + c)).size : Nat)) (fs' := ((crAt T ks i).set i (d.extract 0 (l + c), l)).set i (d.extract 0 (l + c), (d.extract 0 (l + c)).size)) (by rw [List.length_set]; exact (crAt_len T ks i (Nat.le_of_lt hlt)).symm)
              (flC_set1 _ _ _ _ _ (by rw [List.getElem?_set_self (by rw [crAt_len T ks i (Nat.le_of_lt hlt)]; exact hlt)])) (by simp) (set_ok (set_ok (crAt_ok H.out.ok ks i (Nat.le_of_lt hlt)) HX.out (by rw [hX]; omega) (by rw [hX]; omega)) (by rw [List.getElem?_set_self (by rw [crAt_len T ks i (Nat.le_of_lt hlt)]; exact hlt)]) (by rw [hX]; omega) (Nat.le_refl _))
            have HF2 := hide F2
            have HCH := hide (CHd.out.trans (F1.2.trans ((Chg.of_below (P := P) (Below.refl (w2.setCell ⟨gf, i * 2, none⟩ (.string (d.extract 0 (l + c)))).heap.size _).drew).trans F2.2)))
            have HFIN := hide (show ((crAt T ks i).set i (d.extract 0 (l + c), l)).set i (d.extract 0 (l + c), (d.extract 0 (l + c)).size) = crAt T ks (i + 1) by
              rw [HSU.out.1, HE.out, List.set_set, hX]
              rfl)
            have HKN := hide (show crK T ks (i + 1) = kk + 1 by rw [HSU.out.2, HE.out])
            have HX2 := hide hX
            clear F1 F1d F2 hX
            generalize d.extract 0 (l + c) = X at *
            go_wp2
            go_roundw
            case rel => exact ⟨i + 1, by first | (rw [HKN.out]; done) | (rw [HKN.out]; go_num), by go_num, by omega, hide (by rw [← HFIN.out]; exact HF2.out.1), HCH⟩
            case measure => simp [intOf]; omega
          · have hkl3 : ¬ ((kk : Int) < (ks.length : Int)) := by omega
            have HE := hide (show crStep T ks i (d, l) kk = ((cutB d (l + n), l + n), kk + 1) by rw [HE0.out, show cutN n ks kk = n from by unfold cutN; rw [if_neg hkl2]])
            clear HE0 hkl2
            have hm : l + n ≤ d.size := by have := HN.out; omega
            have hmi : ((l : Int) + (n : Int)) ≤ (d.size : Int) := by omega
            have hm0 : (0 : Int) ≤ (l : Int) + (n : Int) := by omega
            have hwm : IntKind.i64.wrap ((l : Int) + (n : Int)) = (l : Int) + (n : Int) := by
              simp [IntKind.wrap, IntKind.bits, IntKind.signed]
              omega
            go_wp2_with fail
            go_region
            have hX : (d.extract 0 (l + n)).size = l + n := cutB_size d _ hm
            have HXX : Hid (d.extract 0 (l + n) = cutB d (l + n)) := hide rfl
            have F1 := Rd.out.file' (n0 := T.files.length) (i := i * 2) (u := .string (d.extract 0 (l + n))) (fs' := (crAt T ks i).set i (d.extract 0 (l + n), l)) (crAt_len T ks i (Nat.le_of_lt hlt)).symm (flC_set0 _ _ _ _ _ HX.out) (by simp) (set_ok (crAt_ok H.out.ok ks i (Nat.le_of_lt hlt)) HX.out (by rw [hX]; omega) (by rw [hX]; omega))
            have F1d := F1.1.keep (w' := (w2.setCell ⟨gf, i * 2, none⟩ (.string (d.extract 0 (l + n)))).drew) (P' := P) (fun i _ hi => rfl) (fun i hp _ => hp)
            have F2 := F1d.file' (n0 := T.files.length) (i := i * 2 + 1) (u := .int .i64 ((d.extract 0 (l + n)).size : Nat)) (fs' := ((crAt T ks i).set i (d.extract 0 (l + n), l)).set i (d.extract 0 (l + n), (d.extract 0 (l + n)).size)) (by rw [List.length_set]; exact (crAt_len T ks i (Nat.le_of_lt hlt)).symm)
              (flC_set1 _ _ _ _ _ (by rw [List.getElem?_set_self (by rw [crAt_len T ks i (Nat.le_of_lt hlt)]; exact hlt)])) (by simp) (set_ok (set_ok (crAt_ok H.out.ok ks i (Nat.le_of_lt hlt)) HX.out (by rw [hX]; omega) (by rw [hX]; omega)) (by rw [List.getElem?_set_self (by rw [crAt_len T ks i (Nat.le_of_lt hlt)]; exact hlt)]) (by rw [hX]; omega) (Nat.le_refl _))
            have HF2 := hide F2
            have HCH := hide (CHd.out.trans (F1.2.trans ((Chg.of_below (P := P) (Below.refl (w2.setCell ⟨gf, i * 2, none⟩ (.string (d.extract 0 (l + n)))).heap.size _).drew).trans F2.2)))
            have HFIN := hide (show ((crAt T ks i).set i (d.extract 0 (l + n), l)).set i (d.extract 0 (l + n), (d.extract 0 (l + n)).size) = crAt T ks (i + 1) by
              rw [HSU.out.1, HE.out, List.set_set, hX]
              rfl)
            have HKN := hide (show crK T ks (i + 1) = kk + 1 by rw [HSU.out.2, HE.out])
            have HX2 := hide hX
            clear F1 F1d F2 hX
            generalize d.extract 0 (l + n) = X at *
            go_wp2
            go_roundw
            case rel => exact ⟨i + 1, by first | (rw [HKN.out]; done) | (rw [HKN.out]; go_num), by go_num, by omega, hide (by rw [← HFIN.out]; exact HF2.out.1), HCH⟩
            case measure => simp [intOf]; omega
      · have hnn : ¬ ((0 : Int) < (n : Int)) := by omega
        have hn00 : n = 0 := by omega
        have HE := hide (show crStep T ks i (d, l) kk = ((cutB d (l + n), l + n), kk) by
          have := HN.out
          unfold crStep
          rw [if_neg (fun h => hn0 (by have h1 := h.1; simp only at h1; omega))]
          simp only
          rw [← this])
        clear hn00 hn0
        have hm : l + n ≤ d.size := by have := HN.out; omega
        have hmi : ((l : Int) + (n : Int)) ≤ (d.size : Int) := by omega
        have hm0 : (0 : Int) ≤ (l : Int) + (n : Int) := by omega
        have hwm : IntKind.i64.wrap ((l : Int) + (n : Int)) = (l : Int) + (n : Int) := by
          simp [IntKind.wrap, IntKind.bits, IntKind.signed]
          omega
        go_wp2_with fail
        go_region
        have hX : (d.extract 0 (l + n)).size = l + n := cutB_size d _ hm
        have HXX : Hid (d.extract 0 (l + n) = cutB d (l + n)) := hide rfl
        have F1 := Rd.out.file' (n0 := T.files.length) (i := i * 2) (u := .string (d.extract 0 (l + n))) (fs' := (crAt T ks i).set i (d.extract 0 (l + n), l)) (crAt_len T ks i (Nat.le_of_lt hlt)).symm (flC_set0 _ _ _ _ _ HX.out) (by simp) (set_ok (crAt_ok H.out.ok ks i (Nat.le_of_lt hlt)) HX.out (by rw [hX]; omega) (by rw [hX]; omega))
        have F1d := F1.1.keep (w' := (wd.setCell ⟨gf, i * 2, none⟩ (.string (d.extract 0 (l + n)))).drew) (P' := P) (fun i _ hi => rfl) (fun i hp _ => hp)
        have F2 := F1d.file' (n0 := T.files.length) (i := i * 2 + 1) (u := .int .i64 ((d.extract 0 (l + n)).size : Nat)) (fs' := ((crAt T ks i).set i (d.extract 0 (l + n), l)).set i (d.extract 0 (l + n), (d.extract 0 (l + n)).size)) (by rw [List.length_set]; exact (crAt_len T ks i (Nat.le_of_lt hlt)).symm)
          (flC_set1 _ _ _ _ _ (by rw [List.getElem?_set_self (by rw [crAt_len T ks i (Nat.le_of_lt hlt)]; exact hlt)])) (by simp) (set_ok (set_ok (crAt_ok H.out.ok ks i (Nat.le_of_lt hlt)) HX.out (by rw [hX]; omega) (by rw [hX]; omega)) (by rw [List.getElem?_set_self (by rw [crAt_len T ks i (Nat.le_of_lt hlt)]; exact hlt)]) (by rw [hX]; omega) (Nat.le_refl _))
        have HF2 := hide F2
        have HCH := hide (CHd.out.trans (F1.2.trans ((Chg.of_below (P := P) (Below.refl (wd.setCell ⟨gf, i * 2, none⟩ (.string (d.extract 0 (l + n)))).heap.size _).drew).trans F2.2)))
        have HFIN := hide (show ((crAt T ks i).set i (d.extract 0 (l + n), l)).set i (d.extract 0 (l + n), (d.extract 0 (l + n)).size) = crAt T ks (i + 1) by
          rw [HSU.out.1, HE.out, List.set_set, hX]
          rfl)
        have HKN := hide (show crK T ks (i + 1) = kk by rw [HSU.out.2, HE.out])
        have HX2 := hide hX
        clear F1 F1d F2 hX
        generalize d.extract 0 (l + n) = X at *
        go_wp2
        go_roundw
        case rel => exact ⟨i + 1, by first | (rw [HKN.out]; done) | (rw [HKN.out]; go_num), by go_num, by omega, hide (by rw [← HFIN.out]; exact HF2.out.1), HCH⟩
        case measure => simp [intOf]; omega
    · have hie : i = T.files.length := by omega
      have HFE := hide (show crAt T ks i = (crS T ks T.files 0 0).1 by unfold crAt; rw [hie, List.take_length, List.drop_length, List.append_nil])
      have HKE := hide (show crK T ks i = (crS T ks T.files 0 0).2 by unfold crK; rw [hie, List.take_length])
      have hni : ¬ ((i : Int) < (T.files.length : Int)) := by omega
      have hkk : crK T ks i ≤ i := by have := crS_num T ks (T.files.take i) 0 0; unfold crK; rw [List.length_take] at this; omega
      clear hie hlt
      generalize hKG : crK T ks i = K0 at *
      have hK0 : K0 ≤ 1000 := by omega
      clear hKG
      obtain ⟨al, cl, el, l1, l2, l3⟩ := own_nm R.out.ls
      have R1 := hide R.out
      obtain ⟨oo, oc, eo, o1, o2, o3⟩ := R.out.opsRow
      subst eo
      subst el
      have O3 := hide o3
      have hQr := R.out.lt
      have hll : T.last.length + T.ops.length ≤ 1000 := by have := H.out.ok.nls; have := H.out.ok.cal; omega
      have HPr := hide (show ∀ i, wr.heap.size ≤ i → P i from fun i hi => HP.out i (Nat.le_trans CH.out.size hi))
      have HBD := hide (fun (j : Nat) => opsAll_bounds (ks := ks) (n := T.files.length) (T.ops.take j) K0 T.last H.out.ok.fls (fun o ho => (H.out.ok.fop o (List.mem_of_mem_take ho)).2.2))
      clear l3 o3 R c0 c2 c8
      obtain ⟨w1, rfl⟩ : ∃ w1, w1 = wr := ⟨_, rfl⟩
      go_wp2
      go_loopw [4, 8, 9] (fun u v t wq => ∃ (j : Nat) (v' : Value), v' = v ∧ u = .int .i64 ((K0 + j : Nat) : Int) ∧ t = .int .i64 j ∧ j ≤ T.ops.length ∧ Hid (OwnN wq 0 v (opsAll ks (T.ops.take j) K0 T.last)) ∧ Hid (∀ g, v.ownBlock = some g → P g ∧ g ≠ Q ∧ (Value.slice foA T.files.length fcA).ownBlock ≠ some g) ∧ Hid (Below w1.heap.size w1 wq)) (fun _ _ t _ => T.ops.length - (intOf t).toNat)
      case atStart => exact ⟨0, _, rfl, by simp, rfl, by omega, hide R1.out.ls, hide (fun g hg => ⟨(R1.out.pl g hg).1, (R1.out.pl g hg).2.1, (R1.out.pl g hg).2.2.1⟩), hide (Below.refl _ _)⟩
      case round =>
        obtain ⟨j, v', rfl, rfl, rfl, hj, OV, FV, BV⟩ := hrel
        have c4' := (BV.out.cell (p := ⟨Q, 4, none⟩) hQr).trans c4
        obtain ⟨hb1, hb2⟩ := HBD.out j
        have hb3 : (opsAll ks (T.ops.take j) K0 T.last).length ≤ 1000 := by
          have : (T.ops.take j).length ≤ T.ops.length := by rw [List.length_take]; omega
          omega
        by_cases hlt : j < T.ops.length
        · obtain ⟨go, eo, hco⟩ := O3.out (by omega)
          subst eo
          obtain ⟨e0, e1, e2, e3⟩ := hco j hlt
          have hgo : go < w1.heap.size := World.block_lt_of_cell? w1 _ e0
          have d0 := (BV.out.cell (p := ⟨go, j * 4, none⟩) hgo).trans e0
          have d1 := (BV.out.cell (p := ⟨go, j * 4 + 1, none⟩) hgo).trans e1
          have d2 := (BV.out.cell (p := ⟨go, j * 4 + 2, none⟩) hgo).trans e2
          have d3 := (BV.out.cell (p := ⟨go, j * 4 + 3, none⟩) hgo).trans e3
          have hkd := H.out.ok.fop _ (List.getElem_mem hlt)
          have SN := hide (opsAll_snoc ks (T.ops.take j) (T.ops[j]'hlt) K0 T.last)
          rw [← List.take_succ_eq_append_getElem hlt, List.length_take, show min j T.ops.length = j by omega] at SN
          clear hco e0 e1 e2 e3
          generalize T.ops[j]'hlt = x at *
          obtain ⟨kd, fl, a, b⟩ := x
          simp only at d0 d1 d2 d3 hkd
          generalize opsAll ks (T.ops.take j) K0 T.last = L at *
          have hlt' : (j : Int) < (T.ops.length : Int) := by omega
          have BA := hide (BV.out.alloc BV.out.size (Obj.cells #[.int .i64 kd, .int .i64 fl, .string a, .string b] 98))
          have OA := hide (own_below OV.out ((Below.refl wr.heap.size wr).alloc (Nat.le_refl _) (Obj.cells #[.int .i64 kd, .int .i64 fl, .string a, .string b] 98)))
          obtain ⟨so, sc, es, _⟩ := row_slice OV.out
          subst es
          have GK := hide (show K0 + j < ks.length → ∃ kb ko, ka = some ⟨kb, ko, none⟩ ∧ (wr.alloc (Obj.cells #[.int .i64 kd, .int .i64 fl, .string a, .string b] 98)).cell? ⟨kb, ko + (K0 + j), none⟩ = some (.int .i64 (ks.getD (K0 + j) 0)) from fun hk => by
            obtain ⟨ka', kc', ek, q1, q2, q3, q4⟩ := HK.out
            cases ek
            obtain ⟨kb, ko, e1, hkp, hkc⟩ := q4 (by omega)
            have g0 := hkc (K0 + j) hk
            have hbl := World.block_lt_of_cell? w _ g0
            refine ⟨kb, ko, e1, ?_⟩
            rw [BA.out.cell (p := ⟨kb, ko + (K0 + j), none⟩) (Nat.lt_of_lt_of_le hbl CH.out.size), World.cell?_of_block (w := w) (CH.out.block kb hbl hkp)]
            exact g0)
          have NEWF := fun (v5 : Value) (l5 : List (ByteArray × Int)) (w5 : World) (o5 : OwnN w5 (wr.alloc (Obj.cells #[.int .i64 kd, .int .i64 fl, .string a, .string b] 98)).heap.size v5 l5) => show ∀ g, v5.ownBlock = some g → P g ∧ g ≠ Q ∧ (Value.slice foA T.files.length fcA).ownBlock ≠ some g from fun g hg => by
            have h1 := (World.ownsRow.lt o5 g hg).1
            have h2 := BA.out.size
            have h3 : w1.heap.size ≤ g := Nat.le_trans h2 h1
            exact ⟨HPr.out g h3, by omega, fun e => by have := (World.ownsRow.lt R1.out.fs g e).2; omega⟩
          by_cases hsk : K0 + j < ks.length
          · obtain ⟨kb, ko, ek, gk⟩ := GK.out hsk
            subst ek
            cases hod : (bits .and .i64 (ks.getD (K0 + j) 0) 1 == 1) with
            | true =>
              have SK := hide (show skipK ks (K0 + j) = true by unfold skipK; rw [decide_eq_true hsk, hod]; rfl)
              have SN2 := hide (show opsAll ks (T.ops.take (j + 1)) K0 T.last = L by rw [SN.out, SK.out]; rfl)
              have hsk' : (K0 : Int) + (j : Int) < (ks.length : Int) := by omega
              generalize ks.getD (K0 + j) 0 = z at *
              go_wp2
              go_roundw
              case rel => exact ⟨j + 1, _, rfl, by go_num, by go_num, by omega, hide (by rw [SN2.out]; exact OA.out), FV, BA⟩
              case measure => simp [intOf]; omega
            | false =>
              have SK := hide (show skipK ks (K0 + j) = false by unfold skipK; rw [hod]; simp)
              have hsk' : (K0 : Int) + (j : Int) < (ks.length : Int) := by omega
              generalize ks.getD (K0 + j) 0 = z at *
              rcases (show kd = 0 ∨ kd = 1 ∨ kd = 2 by omega) with hkd0 | hkd0 | hkd0
              · have SN2 := hide (show opsAll ks (T.ops.take (j + 1)) K0 T.last = withF L a (fl : Int) by rw [SN.out, SK.out, hkd0]; rfl)
                have k0 : ((kd : Int) == 0) = true := by rw [hkd0]; rfl
                clear hkd0 hkd
                have WT := hide (with_any _ L a (fl : Int) _ OA.out hb3)
                go_wp2_with fail
                refine WT.out.mono ?_
                rintro e w5 ⟨v5, rfl, o5, b5⟩
                have B5 := hide (BA.out.trans (b5.mono BA.out.size))
                have F5 := hide (NEWF v5 _ w5 o5)
                have O5 := hide (ownN_base o5 (Nat.zero_le _))
                clear o5 b5
                go_wp2
                go_roundw
                case rel => exact ⟨j + 1, _, rfl, by go_num, by go_num, by omega, hide (by rw [SN2.out]; exact O5.out), F5, B5⟩
                case measure => simp [intOf]; omega
              · have k0 : ((kd : Int) == 0) = false := by rw [hkd0]; rfl
                have k1 : ((kd : Int) == 1) = true := by rw [hkd0]; rfl
                have A := hide (at_any _ L a _ (own_nm OA.out))
                rcases atF_cases a L 0 with hA | ⟨k, hk, hA⟩
                · have SN2 := hide (show opsAll ks (T.ops.take (j + 1)) K0 T.last = L by rw [SN.out, SK.out, hkd0]; unfold doT; simp [hA])
                  rw [hA] at A
                  clear hkd0 hkd hA
                  go_wp2_with fail
                  refine A.out.mono ?_
                  rintro e w5 ⟨rfl, e2⟩
                  subst e2
                  go_wp2
                  go_roundw
                  case rel => exact ⟨j + 1, _, rfl, by go_num, by go_num, by omega, hide (by rw [SN2.out]; exact OA.out), FV, BA⟩
                  case measure => simp [intOf]; omega
                · rw [Nat.zero_add] at hA
                  have SN2 := hide (show opsAll ks (T.ops.take (j + 1)) K0 T.last = woF (withF L b (L[k]'hk).2) a by rw [SN.out, SK.out, hkd0]; unfold doT; simp [hA, List.getElem?_eq_getElem hk]; intro h; omega)
                  rw [hA] at A
                  clear hkd0 hkd
                  have x2 : (wr.alloc (Obj.cells #[.int .i64 kd, .int .i64 fl, .string a, .string b] 98)).cell? ⟨wr.heap.size, 2, none⟩ = some (.string a) := cell_of (MapKept.heap_alloc wr _).1 rfl
                  have x3 : (wr.alloc (Obj.cells #[.int .i64 kd, .int .i64 fl, .string a, .string b] 98)).cell? ⟨wr.heap.size, 3, none⟩ = some (.string b) := cell_of (MapKept.heap_alloc wr _).1 rfl
                  have hbx : wr.heap.size < (wr.alloc (Obj.cells #[.int .i64 kd, .int .i64 fl, .string a, .string b] 98)).heap.size := by simp
                  obtain ⟨ab, cb, eb, m1, m2, m3⟩ := own_nm OA.out
                  cases eb
                  obtain ⟨gb, ob, rfl, hcb⟩ := m3 (by omega)
                  have y1 := (hcb k hk).2
                  have hwl := withF_len L b (L[k]'hk).2
                  have WT2 := hide (with_any _ L b (L[k]'hk).2 _ (World.ownsRow.drew OA.out) hb3)
                  have WL := hide (show (withF L b (L[k]'hk).2).length ≤ 2000 by omega)
                  clear hcb m3 hwl
                  generalize (L[k]'hk).2 = fk at *
                  have KX := hide (show ∀ w6, Below (wr.alloc (Obj.cells #[.int .i64 kd, .int .i64 fl, .string a, .string b] 98)).drew.heap.size (wr.alloc (Obj.cells #[.int .i64 kd, .int .i64 fl, .string a, .string b] 98)).drew w6 → w6.cell? ⟨wr.heap.size, 2, none⟩ = some (.string a) from fun w6 hb => (hb.cell (p := ⟨wr.heap.size, 2, none⟩) hbx).trans x2)
                  go_wp2_with fail
                  refine A.out.mono ?_
                  rintro e w5 ⟨rfl, e2⟩
                  subst e2
                  go_wp2_with fail
                  go_region_with (first
                    | (go_at_call 53; refine WT2.out.mono ?_; rintro e w6 ⟨v6, rfl, o6, b6⟩; have y2 := KX.out w6 b6)
                    | (go_at_call 55; refine (without_any _ v6 _ a w6 o6 b6.size WL.out).mono ?_; rintro e w7 ⟨v7, rfl, o7, b7'⟩; have b7 := b6.trans (b7'.mono b6.size)))
                  all_goals
                    have B7 := hide (BA.out.drew.trans (b7.mono BA.out.size))
                    have F7 := hide (NEWF v7 _ w7 o7)
                    have O7 := hide (ownN_base o7 (Nat.zero_le _))
                    clear o7 b7 b7' b6 o6
                    go_wp2
                    go_roundw
                    case rel => exact ⟨j + 1, _, rfl, by go_num, by go_num, by omega, hide (by rw [SN2.out]; exact O7.out), F7, B7⟩
                    case measure => simp [intOf]; omega
              · have SN2 := hide (show opsAll ks (T.ops.take (j + 1)) K0 T.last = woF L a by rw [SN.out, SK.out, hkd0]; rfl)
                have k0 : ((kd : Int) == 0) = false := by rw [hkd0]; rfl
                have k1 : ((kd : Int) == 1) = false := by rw [hkd0]; rfl
                have k2 : ((kd : Int) == 2) = true := by rw [hkd0]; rfl
                clear hkd0 hkd
                have WT := hide (wo_far (P := P) (Q := Q) (fv := .slice foA T.files.length fcA) _ L a _ OA.out FV.out (by omega) (fun v5 l5 w5 o5 => NEWF v5 l5 w5 o5))
                go_wp2_with fail
                refine WT.out.mono ?_
                rintro e w5 ⟨v5, rfl, o5, f5, b5⟩
                have B5 := hide (BA.out.trans (b5.mono BA.out.size))
                have F5 := hide f5
                have O5 := hide o5
                clear o5 b5 f5
                go_wp2
                go_roundw
                case rel => exact ⟨j + 1, _, rfl, by go_num, by go_num, by omega, hide (by rw [SN2.out]; exact O5.out), F5, B5⟩
                case measure => simp [intOf]; omega
          · have SK := hide (show skipK ks (K0 + j) = false by unfold skipK; rw [decide_eq_false hsk]; rfl)
            have hsk' : ¬ ((K0 : Int) + (j : Int) < (ks.length : Int)) := by omega
            rcases (show kd = 0 ∨ kd = 1 ∨ kd = 2 by omega) with hkd0 | hkd0 | hkd0
            · have SN2 := hide (show opsAll ks (T.ops.take (j + 1)) K0 T.last = withF L a (fl : Int) by rw [SN.out, SK.out, hkd0]; rfl)
              have k0 : ((kd : Int) == 0) = true := by rw [hkd0]; rfl
              clear hkd0 hkd
              have WT := hide (with_any _ L a (fl : Int) _ OA.out hb3)
              go_wp2_with fail
              refine WT.out.mono ?_
              rintro e w5 ⟨v5, rfl, o5, b5⟩
              have B5 := hide (BA.out.trans (b5.mono BA.out.size))
              have F5 := hide (NEWF v5 _ w5 o5)
              have O5 := hide (ownN_base o5 (Nat.zero_le _))
              clear o5 b5
              go_wp2
              go_roundw
              case rel => exact ⟨j + 1, _, rfl, by go_num, by go_num, by omega, hide (by rw [SN2.out]; exact O5.out), F5, B5⟩
              case measure => simp [intOf]; omega
            · have k0 : ((kd : Int) == 0) = false := by rw [hkd0]; rfl
              have k1 : ((kd : Int) == 1) = true := by rw [hkd0]; rfl
              have A := hide (at_any _ L a _ (own_nm OA.out))
              rcases atF_cases a L 0 with hA | ⟨k, hk, hA⟩
              · have SN2 := hide (show opsAll ks (T.ops.take (j + 1)) K0 T.last = L by rw [SN.out, SK.out, hkd0]; unfold doT; simp [hA])
                rw [hA] at A
                clear hkd0 hkd hA
                go_wp2_with fail
                refine A.out.mono ?_
                rintro e w5 ⟨rfl, e2⟩
                subst e2
                go_wp2
                go_roundw
                case rel => exact ⟨j + 1, _, rfl, by go_num, by go_num, by omega, hide (by rw [SN2.out]; exact OA.out), FV, BA⟩
                case measure => simp [intOf]; omega
              · rw [Nat.zero_add] at hA
                have SN2 := hide (show opsAll ks (T.ops.take (j + 1)) K0 T.last = woF (withF L b (L[k]'hk).2) a by rw [SN.out, SK.out, hkd0]; unfold doT; simp [hA, List.getElem?_eq_getElem hk]; intro h; omega)
                rw [hA] at A
                clear hkd0 hkd
                have x2 : (wr.alloc (Obj.cells #[.int .i64 kd, .int .i64 fl, .string a, .string b] 98)).cell? ⟨wr.heap.size, 2, none⟩ = some (.string a) := cell_of (MapKept.heap_alloc wr _).1 rfl
                have x3 : (wr.alloc (Obj.cells #[.int .i64 kd, .int .i64 fl, .string a, .string b] 98)).cell? ⟨wr.heap.size, 3, none⟩ = some (.string b) := cell_of (MapKept.heap_alloc wr _).1 rfl
                have hbx : wr.heap.size < (wr.alloc (Obj.cells #[.int .i64 kd, .int .i64 fl, .string a, .string b] 98)).heap.size := by simp
                obtain ⟨ab, cb, eb, m1, m2, m3⟩ := own_nm OA.out
                cases eb
                obtain ⟨gb, ob, rfl, hcb⟩ := m3 (by omega)
                have y1 := (hcb k hk).2
                have hwl := withF_len L b (L[k]'hk).2
                have WT2 := hide (with_any _ L b (L[k]'hk).2 _ (World.ownsRow.drew OA.out) hb3)
                have WL := hide (show (withF L b (L[k]'hk).2).length ≤ 2000 by omega)
                clear hcb m3 hwl
                generalize (L[k]'hk).2 = fk at *
                have KX := hide (show ∀ w6, Below (wr.alloc (Obj.cells #[.int .i64 kd, .int .i64 fl, .string a, .string b] 98)).drew.heap.size (wr.alloc (Obj.cells #[.int .i64 kd, .int .i64 fl, .string a, .string b] 98)).drew w6 → w6.cell? ⟨wr.heap.size, 2, none⟩ = some (.string a) from fun w6 hb => (hb.cell (p := ⟨wr.heap.size, 2, none⟩) hbx).trans x2)
                go_wp2_with fail
                refine A.out.mono ?_
                rintro e w5 ⟨rfl, e2⟩
                subst e2
                go_wp2_with fail
                go_region_with (first
                  | (go_at_call 53; refine WT2.out.mono ?_; rintro e w6 ⟨v6, rfl, o6, b6⟩; have y2 := KX.out w6 b6)
                  | (go_at_call 55; refine (without_any _ v6 _ a w6 o6 b6.size WL.out).mono ?_; rintro e w7 ⟨v7, rfl, o7, b7'⟩; have b7 := b6.trans (b7'.mono b6.size)))
                all_goals
                  have B7 := hide (BA.out.drew.trans (b7.mono BA.out.size))
                  have F7 := hide (NEWF v7 _ w7 o7)
                  have O7 := hide (ownN_base o7 (Nat.zero_le _))
                  clear o7 b7 b7' b6 o6
                  go_wp2
                  go_roundw
                  case rel => exact ⟨j + 1, _, rfl, by go_num, by go_num, by omega, hide (by rw [SN2.out]; exact O7.out), F7, B7⟩
                  case measure => simp [intOf]; omega
            · have SN2 := hide (show opsAll ks (T.ops.take (j + 1)) K0 T.last = woF L a by rw [SN.out, SK.out, hkd0]; rfl)
              have k0 : ((kd : Int) == 0) = false := by rw [hkd0]; rfl
              have k1 : ((kd : Int) == 1) = false := by rw [hkd0]; rfl
              have k2 : ((kd : Int) == 2) = true := by rw [hkd0]; rfl
              clear hkd0 hkd
              have WT := hide (wo_far (P := P) (Q := Q) (fv := .slice foA T.files.length fcA) _ L a _ OA.out FV.out (by omega) (fun v5 l5 w5 o5 => NEWF v5 l5 w5 o5))
              go_wp2_with fail
              refine WT.out.mono ?_
              rintro e w5 ⟨v5, rfl, o5, f5, b5⟩
              have B5 := hide (BA.out.trans (b5.mono BA.out.size))
              have F5 := hide f5
              have O5 := hide o5
              clear o5 b5 f5
              go_wp2
              go_roundw
              case rel => exact ⟨j + 1, _, rfl, by go_num, by go_num, by omega, hide (by rw [SN2.out]; exact O5.out), F5, B5⟩
              case measure => simp [intOf]; omega
        · have hje : j = T.ops.length := by omega
          have hjn : ¬ ((j : Int) < (T.ops.length : Int)) := by omega
          have HLE := hide (show opsAll ks (T.ops.take j) K0 T.last = opsAll ks T.ops (crS T ks T.files 0 0).2 T.last by rw [hje, List.take_length, HKE.out])
          have Rw := hide (R1.out.keep (w' := wr) (P' := P) (fun i _ hi => BV.out.block i hi) (fun i hp _ => hp))
          obtain ⟨so, sc, es, _⟩ := row_slice OV.out
          subst es
          have OKF := hide (crash_ok H.out.ok ks)
          have OL := hide (show OwnN wr 0 (.slice so (opsAll ks (T.ops.take j) K0 T.last).length sc) (opsAll ks T.ops (crS T ks T.files 0 0).2 T.last) by have := OV.out; rw [HLE.out] at this ⊢; exact this)
          obtain ⟨p0, p1, p2, p3, p4, p8, pr⟩ := Rw.out.cells
          obtain ⟨p5, p6, p7, _, _⟩ := Rw.out.row.cells
          have CHW := hide (CH.out.trans (Chg.of_below (P := P) BV.out))
          have FIN := hide (fun (w9 : World) (ho : Only Q wr w9) (hr : RB w9 Q (crashT T ks).q (.slice foA T.files.length fcA) (.slice so (opsAll ks (T.ops.take j) K0 T.last).length sc) (.slice so (opsAll ks (T.ops.take j) K0 T.last).length sc) (.slice none 0 0) (crashT T ks).calls (crashT T ks).left (crashT T ks).fail (crashT T ks).dead) =>
            Rw.out.put (T' := crashT T ks) ho hr (by have := Rw.out.fs; show OwnF wr _ (crS T ks T.files 0 0).1; rw [← HFE.out]; exact this) OL.out OL.out ⟨rfl, .inl ⟨rfl, rfl⟩⟩ Rw.out.pf (fun g hg => ⟨(FV.out g hg).1, (FV.out g hg).2.1, (FV.out g hg).2.2, fun e => by cases e⟩) (fun g hg => ⟨(FV.out g hg).1, (FV.out g hg).2.1, (FV.out g hg).2.2, fun e => by cases e⟩) (fun g hg => by cases hg) OKF.out)
          have pQ := hide Rw.out.pQ
          clear hje hb1 hb2 hb3 p0 p1 c4 c3 c1 fr
          generalize (opsAll ks (T.ops.take j) K0 T.last).length = NL at *
          go_wp2
          go_end0
          have OB := (((((only_set wr Q 2 (.slice so NL sc)).set 3 (.slice so NL sc)).set 4 (.slice none 0 0)).set 6 (.int .i64 (-1))).set 7 (.int .i64 0)).set 8 (.bool false)
          exact ⟨rfl, ⟨_, _, _, _, FIN.out _ OB ((((((Rw.out.row.set2 _).set3 _).set4 _).set6 _).set7 _).set8 _)⟩, CHW.out.trans (Chg.of_only OB pQ.out)⟩

end Go.Proofs.YtfogfpanfhmijaaGreat.Clep
