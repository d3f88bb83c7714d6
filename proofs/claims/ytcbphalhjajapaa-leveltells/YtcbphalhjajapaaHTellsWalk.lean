/- LevelTells, walked. No conditions. -/
import Derived.Test.YtcbphalhjajapaaHRefPick
import Derived.Test.YtcbphalhjajapaaHFew
import Derived.Test.YtcbphalhjajapaaHEd
import Derived.Test.YtcbphalhjajapaaHAwake
import Derived.Test.YtcbphalhjajapaaKept
namespace Go.Proofs.Ytcbphalhjajapaa.Clep
open Go.RowKit
set_option linter.unusedVariables false
set_option linter.unusedSimpArgs false

set_option maxRecDepth 100000 in
set_option maxHeartbeats 16000000 in
theorem walk_tells (a : Option Addr) (n c : Nat) (l : List He) (w : World) (h : Hs w a n c l) (hn : n ≤ 9223372036854775807) :
    Calls Try.prog 5 #[.slice a n c] w fun e w' => e = .returned (.bool true) ∧ Below w.heap.size w w' := by
  have HAK := hide (fun W => awake_any W)
  have HF1 := hide (few_any a n c l w h hn)
  have HH := hide (fun W (hW : Below w.heap.size w W) => h.below hW (Nat.le_refl _))
  have HLN := hide h.1
  clear h
  go_enter Try.func5, Try.ntmps5
  go_wp2_with fail
  refine HF1.out.mono ?_
  rintro e w1 ⟨b1, rfl, hb1, hB1⟩
  have HB1 := hide hB1
  clear hB1
  cases b1 with
  | false =>
    go_wp2_with fail
    refine (HAK.out _).mono ?_
    rintro e w2 ⟨rfl, hb2⟩
    have HB2 := hide (HB1.out.trans (hb2.mono HB1.out.size))
    clear hb2 hb1
    go_wp2
    go_ret
    exact ⟨rfl, HB2.out⟩
  | true =>
    have hn50 := hb1 rfl
    clear hb1 HF1
    go_wp2_with fail
    go_loopw [3] (fun s wr => ∃ i : Nat, i ≤ n ∧ s = .int .i64 i ∧ Hid ((∀ x ∈ l.take i, 0 ≤ x.M ∧ x.M ≤ 1000000) ∧ Below w.heap.size w wr)) (fun s _ => n - (intOf s).toNat)
    case atStart => exact ⟨0, by omega, rfl, hide ⟨by simp, HB1.out⟩⟩
    case round =>
      obtain ⟨i, hi, rfl, hst⟩ := hrel
      by_cases hlt : i < n
      · obtain ⟨x, ab, off, hx, rfl, hok, x0, x1, x2, x3, x4⟩ := hs_at (HH.out _ hst.out.2) i hlt
        have hqi : (i : Int) < (n : Int) := by omega
        have HX := hide hx
        have HBW := hide hst.out.2
        obtain ⟨xM, hxM⟩ : ∃ z, x.M = z := ⟨_, rfl⟩
        have HXM := hide hxM
        rw [hxM] at x4
        clear hx hok hxM
        rcases (show xM < 0 ∨ (¬ xM < 0 ∧ xM > 1000000) ∨ (¬ xM < 0 ∧ ¬ xM > 1000000) by omega) with q1 | ⟨q1, q2⟩ | ⟨q1, q2⟩
        · clear hst
          go_wp2_with fail
          refine (HAK.out _).mono ?_
          rintro e w2 ⟨rfl, hb2⟩
          have HB2 := hide (HBW.out.trans (hb2.mono HBW.out.size))
          clear hb2
          go_wp2
          go_ret
          exact ⟨rfl, HB2.out⟩
        · clear hst
          go_wp2_with fail
          refine (HAK.out _).mono ?_
          rintro e w2 ⟨rfl, hb2⟩
          have HB2 := hide (HBW.out.trans (hb2.mono HBW.out.size))
          clear hb2
          go_wp2
          go_ret
          exact ⟨rfl, HB2.out⟩
        · have HN := hide (show (∀ x ∈ l.take (i + 1), 0 ≤ x.M ∧ x.M ≤ 1000000) ∧ Below w.heap.size w wr from by
            refine ⟨fun z hz => ?_, HBW.out⟩
            rw [List.take_add_one, HX.out] at hz
            rcases List.mem_append.1 hz with hz | hz
            · exact hst.out.1 z hz
            · rw [List.mem_singleton.1 hz, HXM.out]; omega)
          clear hst
          go_wp2
          go_roundw
          case rel => exact ⟨i + 1, by omega, by go_num, HN⟩
          case measure => simp [intOf]; omega
      · obtain rfl : n = i := by omega
        have hqi : ¬ ((n : Int) < (n : Int)) := by omega
        have hfull : l.take n = l := List.take_of_length_le (by rw [HLN.out]; exact Nat.le_refl _)
        obtain ⟨k1, k3⟩ := hst.out
        rw [hfull] at k1
        have HMI := hide (show Mild l from ⟨by have := HLN.out; omega, k1⟩)
        have HBW := hide k3
        clear hst k1 k3 hfull HB1
        have HF := hide (fun W (hW : Below wr.heap.size wr W) => (HH.out _ HBW.out).below hW (Nat.le_refl _))
        have HPK := hide (pick_any a n c l wr (HF.out _ (Below.refl _ _)) HMI.out)
        have HRP := hide (fun W hW => refpick_any a n c l W (HF.out W hW) HMI.out)
        have HOV := hide (fun W hW => overs_any a n c l W (HF.out W hW) HMI.out)
        have HRO := hide (fun W hW => refovers_any a n c l W (HF.out W hW) HMI.out)
        have HDN := hide (fun W hW => done_any a n c l W (HF.out W hW) HMI.out)
        have HTO := hide (show ∀ (x y : He) W, x.ok W → y.ok W → _ ∧ _ from fun x y W hx hy => And.intro (touch_any x y W hx hy) (reftouch_any x y W hx hy))
        have hovr : ∀ z ∈ overE l, -9223372036854775808 ≤ z ∧ z ≤ 9223372036854775807 := by
          intro z hz
          unfold overE zn at hz
          obtain ⟨q, hq, rfl⟩ := List.mem_map.1 hz
          have := List.mem_range.1 (List.mem_filter.1 hq).1
          omega
        have HOR := hide hovr
        have HOL := hide (show (overE l).length ≤ 4 from by
          unfold overE
          rw [zn_len]
          exact List.length_filter_le (ovr l) (List.range 4))
        clear hovr
        cases hlo : low l with
        | none =>
          have hpe : pickE l = ([], 0, false) := by unfold pickE; rw [hlo]
          have hre : rpE l = ([], -1) := by unfold rpE; rw [hlo]
          have HOE := hide ((over_low l).1 hlo)
          rw [hlo] at HDN
          clear hlo
          go_wp2_with fail
          refine HPK.out.mono ?_
          rintro e w2 ⟨v, rfl, ho, hb2⟩
          rw [hpe] at ho ⊢
          obtain ⟨va, vc, rfl, _, hzs, _⟩ := ownZ_zs ho (by simp)
          rw [List.length_nil] at hzs ⊢
          have HB2 := hide hb2
          have HI := hide (fun W (hW : Below w2.heap.size w2 W) => hzs.below hW (Nat.le_refl _))
          clear ho hb2 HPK hpe hzs
          go_wp2_with fail
          refine (HRP.out _ HB2.out).mono ?_
          rintro e w3 ⟨v3, rfl, ho, hb3⟩
          rw [hre] at ho ⊢
          obtain ⟨ra, rc, rfl, _, hzr, _⟩ := ownZ_zs ho (by simp)
          rw [List.length_nil] at hzr ⊢
          have HB3 := hide (HB2.out.trans (hb3.mono HB2.out.size))
          have hsm := same_any va ra 0 vc 0 rc [] [] w3 (HI.out _ hb3) hzr (by omega) (by omega)
          rw [decide_eq_true rfl] at hsm
          have HSM := hide hsm
          clear hsm ho hb3 HRP hre hzr HB2
          -- tail none<
          obtain ⟨E, hE⟩ : ∃ E, (overE l).length = E := ⟨_, rfl⟩
          have hE4 : E ≤ 4 := by have := HOL.out; omega
          have qe : ((E : Int) == 0) = true := by
            rw [HOE.out] at hE
            simp at hE
            simp; omega
          go_wp2_with fail
          refine HSM.out.mono ?_
          rintro e w4 ⟨rfl, hb4⟩
          have HB4 := hide (HB3.out.trans (hb4.mono HB3.out.size))
          clear hb4 HSM HB3
          go_wp2_with fail
          refine (HOV.out _ HB4.out).mono ?_
          rintro e w5 ⟨v5, rfl, ho5, hb5⟩
          obtain ⟨oa, oc, rfl, _, hz5, _⟩ := ownZ_zs ho5 HOR.out
          rw [hE] at hz5 ⊢
          have HB5 := hide (HB4.out.trans (hb5.mono HB4.out.size))
          have HZ5 := hide (fun W (hW : Below w5.heap.size w5 W) => hz5.below hW (Nat.le_refl _))
          clear ho5 hb5 hz5 HB4 HOV
          go_wp2_with fail
          refine (HRO.out _ HB5.out).mono ?_
          rintro e w6 ⟨v6, rfl, ho6, hb6⟩
          obtain ⟨qa, qc, rfl, _, hz6, _⟩ := ownZ_zs ho6 HOR.out
          rw [hE] at hz6 ⊢
          have HB6 := hide (HB5.out.trans (hb6.mono HB5.out.size))
          have hsm2 := same_any oa qa E oc E qc (overE l) (overE l) w6 (HZ5.out _ hb6) hz6 (by omega) (by omega)
          rw [decide_eq_true rfl] at hsm2
          have HSM2 := hide hsm2
          clear hsm2 ho6 hb6 hz6 HB5 HZ5
          go_wp2_with fail
          refine HSM2.out.mono ?_
          rintro e w7 ⟨rfl, hb7⟩
          have HB7 := hide (HB6.out.trans (hb7.mono HB6.out.size))
          clear hb7 HSM2 HB6
          go_wp2_with fail
          refine (HDN.out _ HB7.out).mono ?_
          rintro e w8 ⟨rfl, hb8⟩
          rw [show (none : Option Nat).isNone = true from rfl]
          have HB8 := hide (HB7.out.trans (hb8.mono HB7.out.size))
          clear hb8 HDN HB7
          go_wp2_with fail
          refine (HRO.out _ HB8.out).mono ?_
          rintro e w9 ⟨v9, rfl, ho9, hb9⟩
          obtain ⟨ta, tc, rfl⟩ := ownZ_slice ho9
          rw [hE]
          have HB9 := hide (HBW.out.trans ((HB8.out.trans (hb9.mono HB8.out.size)).mono HBW.out.size))
          clear ho9 hb9 HRO HB8
          go_wp2_with fail
          generalize hwq : w9 = wq at *
          clear hwq
          go_loopw [9] (fun s wr => ∃ i : Nat, i ≤ n ∧ s = .int .i64 i ∧ Hid (Below wq.heap.size wq wr)) (fun s _ => n - (intOf s).toNat)
          case atStart => exact ⟨0, by omega, rfl, hide (Below.refl _ _)⟩
          case round =>
            obtain ⟨i, hi2, rfl, hst⟩ := hrel
            by_cases hlti : i < n
            · have hqi2 : (i : Int) < (n : Int) := by omega
              go_wp2_with fail
              go_loopw [10] (fun s wr => ∃ j : Nat, j ≤ n ∧ s = .int .i64 j ∧ Hid (Below wq.heap.size wq wr)) (fun s _ => n - (intOf s).toNat)
              case atStart => exact ⟨0, by omega, rfl, hst⟩
              case round =>
                obtain ⟨j, hj2, rfl, hst2⟩ := hrel
                have HWW := hide (HB9.out.trans (hst2.out.mono HB9.out.size))
                by_cases hltj : j < n
                · have hqj2 : (j : Int) < (n : Int) := by omega
                  obtain ⟨x, ab, off, hx, rfl, hok, x0, x1, x2, x3, x4⟩ := hs_at (HH.out _ HWW.out) i hlti
                  obtain ⟨y, ab2, off2, hy, e9, hyok, y0, y1, y2, y3, y4⟩ := hs_at (HH.out _ HWW.out) j hltj
                  injection e9 with e9
                  injection e9 with e9 e8
                  subst e9 e8
                  have kx : ∀ {b o : Nat} {u : Value}, wr.cell? ⟨b, o, none⟩ = some u → ∀ p : Kp wr, p.W.cell? ⟨b, o, none⟩ = some u := fun {b o u} h p => (p.h.cell (p := ⟨b, o, none⟩) (World.block_lt_of_cell? wr _ h)).trans h
                  have ct : Hid (∀ p : Kp wr, Calls Try.prog 13 #[.agg #[.int .i64 x.N, .int .i64 x.L, .slice x.fa x.fz.length x.fc, .slice x.ga x.gz.length x.gc, .int .i64 x.M], .agg #[.int .i64 y.N, .int .i64 y.L, .slice y.fa y.fz.length y.fc, .slice y.ga y.gz.length y.gc, .int .i64 y.M]] p.W fun e w'' => e = .returned (.bool (tch x y)) ∧ ∃ q : Kp wr, w'' = q.W) := hide fun p => kp_call (HTO.out x y p.W (hok.below p.h (Nat.le_refl _)) (hyok.below p.h (Nat.le_refl _))).1
                  have cr : Hid (∀ p : Kp wr, Calls Try.prog 18 #[.agg #[.int .i64 x.N, .int .i64 x.L, .slice x.fa x.fz.length x.fc, .slice x.ga x.gz.length x.gc, .int .i64 x.M], .agg #[.int .i64 y.N, .int .i64 y.L, .slice y.fa y.fz.length y.fc, .slice y.ga y.gz.length y.gc, .int .i64 y.M]] p.W fun e w'' => e = .returned (.bool (tch x y)) ∧ ∃ q : Kp wr, w'' = q.W) := hide fun p => kp_call (HTO.out x y p.W (hok.below p.h (Nat.le_refl _)) (hyok.below p.h (Nat.le_refl _))).2
                  have hne : Nonempty (Kp wr) := ⟨⟨_, Below.refl _ _⟩⟩
                  obtain ⟨Tb, hTb⟩ : ∃ Tb, tch x y = Tb := ⟨_, rfl⟩
                  rw [hTb] at ct cr
                  have x0 := kx x0
                  have x1 := kx x1
                  have x2 := kx x2
                  have x3 := kx x3
                  have x4 := kx x4
                  have y0 := kx y0
                  have y1 := kx y1
                  have y2 := kx y2
                  have y3 := kx y3
                  have y4 := kx y4
                  clear kx hTb hx hy hok hyok
                  go_wp2_with fail
                  refine wp_region_kept (by kernel_rfl) (by kernel_rfl) ?_
                  repeat (first
                    | go_big_quiet_step (first | (go_at_call 13; exact ct.out _) | (go_at_call 18; exact cr.out _))
                    | fail)
                  refine wpQuiet_nil ?_
                  intro w10 hw'
                  have hb10 : Below wr.heap.size wr w10 := by
                    obtain ⟨p, hp⟩ := hw'
                    rw [hp]; exact p.h
                  have HB10 := hide (hst2.out.trans (hb10.mono hst2.out.size))
                  clear hw' hne ct cr hb10 x0 x1 x2 x3 x4 y0 y1 y2 y3 y4 hst2 hst HWW
                  go_wp2
                  go_roundw
                  case rel => exact ⟨j + 1, by omega, by go_num, HB10⟩
                  case measure => simp [intOf]; omega
                · obtain rfl : n = j := by omega
                  have hqj2 : ¬ ((n : Int) < (n : Int)) := by omega
                  clear hst
                  go_wp2
                  go_roundw
                  case rel => exact ⟨i + 1, by omega, by go_num, hst2⟩
                  case measure => simp [intOf]; omega
            · obtain rfl : n = i := by omega
              have hqi2 : ¬ ((n : Int) < (n : Int)) := by omega
              go_wp2_with fail
              refine (HAK.out _).mono ?_
              rintro e w11 ⟨rfl, hb11⟩
              have HB11 := hide (HB9.out.trans ((hst.out.trans (hb11.mono hst.out.size)).mono HB9.out.size))
              clear hb11 hst
              go_wp2
              go_ret
              exact ⟨rfl, HB11.out⟩
        | some k =>
          have hpe : pickE l = ((pkL l k).map (nm l), (k : Int) + 1, true) := by unfold pickE; rw [hlo]; show (numZ l (plZ l k), (k : Int) + 1, true) = _; rw [numZ_pk]
          have hre : rpE l = ((pkL l k).map (nm l), (k : Int) + 1) := by unfold rpE; rw [hlo]
          have HOE := hide ((over_low l).2 k hlo)
          have hk3 := (low_lt hlo).1
          have hZR : ∀ z ∈ (pkL l k).map (nm l), -9223372036854775808 ≤ z ∧ z ≤ 9223372036854775807 := by
            intro z hz
            obtain ⟨p, hp, rfl⟩ := List.mem_map.1 hz
            have hpl := pkL_lt hp
            rw [nm_of (List.getElem?_eq_getElem hpl)]
            exact ((HH.out w (Below.refl _ _)).2.2.1 _ (List.getElem_mem hpl)).2.2.1
          have HZR := hide hZR
          have HPU := hide (show ((pkL l k).map (nm l)).length ≤ 50 from by
            rw [List.length_map]
            have h1 : (pkL l k).length ≤ l.length := by
              have := List.length_filter_le (pk l k) (List.range l.length)
              rwa [List.length_range] at this
            rw [HLN.out] at h1
            exact Nat.le_trans h1 hn50)
          obtain ⟨E, hE⟩ : ∃ E, (overE l).length = E := ⟨_, rfl⟩
          have hE4 : E ≤ 4 := by have := HOL.out; omega
          have qe : ((E : Int) == 0) = false := by
            obtain ⟨r, hr⟩ := HOE.out
            rw [hr, List.length_cons] at hE
            simp; omega
          rw [hlo] at HDN
          clear hlo hZR
          generalize (pkL l k).map (nm l) = ns at *
          go_wp2_with fail
          refine HPK.out.mono ?_
          rintro e w2 ⟨v, rfl, ho, hb2⟩
          rw [hpe] at ho ⊢
          obtain ⟨va, vc, rfl, _, hzs, _⟩ := ownZ_zs ho HZR.out
          obtain ⟨m, hm⟩ : ∃ m, ns.length = m := ⟨_, rfl⟩
          rw [hm] at HPU
          have hm50 := HPU.out
          simp only [hm] at hzs ⊢
          have HB2 := hide hb2
          have HI := hide (fun W (hW : Below w2.heap.size w2 W) => hzs.below hW (Nat.le_refl _))
          clear ho hb2 HPK hpe hzs
          go_wp2_with fail
          refine (HRP.out _ HB2.out).mono ?_
          rintro e w3 ⟨v3, rfl, ho, hb3⟩
          rw [hre] at ho ⊢
          obtain ⟨ra, rc, rfl, _, hzr, _⟩ := ownZ_zs ho HZR.out
          simp only [hm] at hzr ⊢
          have HB3 := hide (HB2.out.trans (hb3.mono HB2.out.size))
          have hsm := same_any va ra m vc m rc ns ns w3 (HI.out _ hb3) hzr (by omega) (by omega)
          rw [decide_eq_true rfl] at hsm
          have HSM := hide hsm
          clear hsm ho hb3 HRP hre hzr HB2 hm
          have qk0 : (k : Int) + 1 ≥ 0 := by omega
          go_wp2_with fail
          refine HSM.out.mono ?_
          rintro e w4 ⟨rfl, hb4⟩
          have HB4 := hide (HB3.out.trans (hb4.mono HB3.out.size))
          clear hb4 HSM HB3
          go_wp2_with fail
          refine (HOV.out _ HB4.out).mono ?_
          rintro e w5 ⟨v5, rfl, ho5, hb5⟩
          obtain ⟨oa, oc, rfl, _, hz5, _⟩ := ownZ_zs ho5 HOR.out
          rw [hE] at hz5 ⊢
          have HB5 := hide (HB4.out.trans (hb5.mono HB4.out.size))
          have HZ5 := hide (fun W (hW : Below w5.heap.size w5 W) => hz5.below hW (Nat.le_refl _))
          clear ho5 hb5 hz5 HB4 HOV
          go_wp2_with fail
          refine (HRO.out _ HB5.out).mono ?_
          rintro e w6 ⟨v6, rfl, ho6, hb6⟩
          obtain ⟨qa, qc, rfl, _, hz6, _⟩ := ownZ_zs ho6 HOR.out
          rw [hE] at hz6 ⊢
          have HB6 := hide (HB5.out.trans (hb6.mono HB5.out.size))
          have hsm2 := same_any oa qa E oc E qc (overE l) (overE l) w6 (HZ5.out _ hb6) hz6 (by omega) (by omega)
          rw [decide_eq_true rfl] at hsm2
          have HSM2 := hide hsm2
          clear hsm2 ho6 hb6 hz6 HB5 HZ5
          go_wp2_with fail
          refine HSM2.out.mono ?_
          rintro e w7 ⟨rfl, hb7⟩
          have HB7 := hide (HB6.out.trans (hb7.mono HB6.out.size))
          clear hb7 HSM2 HB6
          go_wp2_with fail
          refine (HDN.out _ HB7.out).mono ?_
          rintro e w8 ⟨rfl, hb8⟩
          rw [show (some k : Option Nat).isNone = false from rfl]
          have HB8 := hide (HB7.out.trans (hb8.mono HB7.out.size))
          clear hb8 HDN HB7
          go_wp2_with fail
          refine (HRO.out _ HB8.out).mono ?_
          rintro e w9 ⟨v9, rfl, ho9, hb9⟩
          obtain ⟨ta, tc, rfl⟩ := ownZ_slice ho9
          rw [hE]
          have HB9 := hide (HBW.out.trans ((HB8.out.trans (hb9.mono HB8.out.size)).mono HBW.out.size))
          clear ho9 hb9 HRO HB8
          go_wp2_with fail
          generalize hwq : w9 = wq at *
          clear hwq
          go_loopw [9] (fun s wr => ∃ i : Nat, i ≤ n ∧ s = .int .i64 i ∧ Hid (Below wq.heap.size wq wr)) (fun s _ => n - (intOf s).toNat)
          case atStart => exact ⟨0, by omega, rfl, hide (Below.refl _ _)⟩
          case round =>
            obtain ⟨i, hi2, rfl, hst⟩ := hrel
            by_cases hlti : i < n
            · have hqi2 : (i : Int) < (n : Int) := by omega
              go_wp2_with fail
              go_loopw [10] (fun s wr => ∃ j : Nat, j ≤ n ∧ s = .int .i64 j ∧ Hid (Below wq.heap.size wq wr)) (fun s _ => n - (intOf s).toNat)
              case atStart => exact ⟨0, by omega, rfl, hst⟩
              case round =>
                obtain ⟨j, hj2, rfl, hst2⟩ := hrel
                have HWW := hide (HB9.out.trans (hst2.out.mono HB9.out.size))
                by_cases hltj : j < n
                · have hqj2 : (j : Int) < (n : Int) := by omega
                  obtain ⟨x, ab, off, hx, rfl, hok, x0, x1, x2, x3, x4⟩ := hs_at (HH.out _ HWW.out) i hlti
                  obtain ⟨y, ab2, off2, hy, e9, hyok, y0, y1, y2, y3, y4⟩ := hs_at (HH.out _ HWW.out) j hltj
                  injection e9 with e9
                  injection e9 with e9 e8
                  subst e9 e8
                  have kx : ∀ {b o : Nat} {u : Value}, wr.cell? ⟨b, o, none⟩ = some u → ∀ p : Kp wr, p.W.cell? ⟨b, o, none⟩ = some u := fun {b o u} h p => (p.h.cell (p := ⟨b, o, none⟩) (World.block_lt_of_cell? wr _ h)).trans h
                  have ct : Hid (∀ p : Kp wr, Calls Try.prog 13 #[.agg #[.int .i64 x.N, .int .i64 x.L, .slice x.fa x.fz.length x.fc, .slice x.ga x.gz.length x.gc, .int .i64 x.M], .agg #[.int .i64 y.N, .int .i64 y.L, .slice y.fa y.fz.length y.fc, .slice y.ga y.gz.length y.gc, .int .i64 y.M]] p.W fun e w'' => e = .returned (.bool (tch x y)) ∧ ∃ q : Kp wr, w'' = q.W) := hide fun p => kp_call (HTO.out x y p.W (hok.below p.h (Nat.le_refl _)) (hyok.below p.h (Nat.le_refl _))).1
                  have cr : Hid (∀ p : Kp wr, Calls Try.prog 18 #[.agg #[.int .i64 x.N, .int .i64 x.L, .slice x.fa x.fz.length x.fc, .slice x.ga x.gz.length x.gc, .int .i64 x.M], .agg #[.int .i64 y.N, .int .i64 y.L, .slice y.fa y.fz.length y.fc, .slice y.ga y.gz.length y.gc, .int .i64 y.M]] p.W fun e w'' => e = .returned (.bool (tch x y)) ∧ ∃ q : Kp wr, w'' = q.W) := hide fun p => kp_call (HTO.out x y p.W (hok.below p.h (Nat.le_refl _)) (hyok.below p.h (Nat.le_refl _))).2
                  have hne : Nonempty (Kp wr) := ⟨⟨_, Below.refl _ _⟩⟩
                  obtain ⟨Tb, hTb⟩ : ∃ Tb, tch x y = Tb := ⟨_, rfl⟩
                  rw [hTb] at ct cr
                  have x0 := kx x0
                  have x1 := kx x1
                  have x2 := kx x2
                  have x3 := kx x3
                  have x4 := kx x4
                  have y0 := kx y0
                  have y1 := kx y1
                  have y2 := kx y2
                  have y3 := kx y3
                  have y4 := kx y4
                  clear kx hTb hx hy hok hyok
                  go_wp2_with fail
                  refine wp_region_kept (by kernel_rfl) (by kernel_rfl) ?_
                  repeat (first
                    | go_big_quiet_step (first | (go_at_call 13; exact ct.out _) | (go_at_call 18; exact cr.out _))
                    | fail)
                  refine wpQuiet_nil ?_
                  intro w10 hw'
                  have hb10 : Below wr.heap.size wr w10 := by
                    obtain ⟨p, hp⟩ := hw'
                    rw [hp]; exact p.h
                  have HB10 := hide (hst2.out.trans (hb10.mono hst2.out.size))
                  clear hw' hne ct cr hb10 x0 x1 x2 x3 x4 y0 y1 y2 y3 y4 hst2 hst HWW
                  go_wp2
                  go_roundw
                  case rel => exact ⟨j + 1, by omega, by go_num, HB10⟩
                  case measure => simp [intOf]; omega
                · obtain rfl : n = j := by omega
                  have hqj2 : ¬ ((n : Int) < (n : Int)) := by omega
                  clear hst
                  go_wp2
                  go_roundw
                  case rel => exact ⟨i + 1, by omega, by go_num, hst2⟩
                  case measure => simp [intOf]; omega
            · obtain rfl : n = i := by omega
              have hqi2 : ¬ ((n : Int) < (n : Int)) := by omega
              go_wp2_with fail
              refine (HAK.out _).mono ?_
              rintro e w11 ⟨rfl, hb11⟩
              have HB11 := hide (HB9.out.trans ((hst.out.trans (hb11.mono hst.out.size)).mono HB9.out.size))
              clear hb11 hst
              go_wp2
              go_ret
              exact ⟨rfl, HB11.out⟩

end Go.Proofs.Ytcbphalhjajapaa.Clep
