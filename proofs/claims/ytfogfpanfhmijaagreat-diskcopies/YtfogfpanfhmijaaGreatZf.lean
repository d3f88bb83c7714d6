/- Statement DiskCopies says true, whatever the row of calls and what is kept (a walk over the translated program). -/
import Derived.Test.YtfogfpanfhmijaaGreatZd
namespace Go.Proofs.YtfogfpanfhmijaaGreat.Clep
open Go.RowKit Go.Maps
set_option linter.unusedVariables false

set_option maxHeartbeats 8000000 in
set_option maxRecDepth 8000 in
theorem copies_any (ao : Option Addr) (len cap : Nat) (l : List OpR) (ko : Option Addr) (kn kcap : Nat) (kk : List Int) (w : World) (hO : Ops4 w ao len cap l) (hlen : len ≤ 9223372036854775807) (hk : NumV (· < w.heap.size) w (.slice ko kn kcap) kk) :
    Calls Tryz.prog 3 #[.slice ao len cap, .slice ko kn kcap] w fun e w' => e = .returned (.bool true) ∧ Below w.heap.size w w' := by
  have HO := hide hO
  have HK := hide hk
  have HKL := hide (show kk.length = kn by obtain ⟨_, _, e, _⟩ := hk; injection e with _ e _; exact e.symm)
  have hkn : kn ≤ 9223372036854775807 := by
    obtain ⟨_, c', e, h1, h2, _⟩ := hk
    injection e with _ e1 e2
    omega
  have CN := hide (new_z 50000 w (by omega))
  have CR := hide (fun W => newT_any 50000 W (fun i => W.heap.size ≤ i) (fun i hi => hi) (by omega))
  have CA := hide (fun W => awake_any W)
  clear hO hk
  by_cases h60 : 60 < kn
  · have h60' : (60 : Int) < (kn : Int) := by omega
    go_enter Tryz.func3, Tryz.ntmps3
    go_wp2_with fail
    refine CN.out.mono ?_
    rintro e w1 ⟨R, rfl, _, b1⟩
    have B1 := hide b1
    clear b1
    go_wp2_with fail
    refine (CR.out w1).mono ?_
    rintro e w2 ⟨rfl, _, b2⟩
    have B2 := hide (B1.out.trans (b2.mono B1.out.size))
    clear b2
    go_wp2_with fail
    refine (CA.out w2).mono ?_
    rintro e w3 ⟨rfl, b3⟩
    have B3 := hide (B2.out.trans (b3.mono B2.out.size))
    clear b3
    go_wp2
    go_ret
    exact ⟨rfl, B3.out⟩
  · have h60' : ¬ (60 : Int) < (kn : Int) := by omega
    go_enter Tryz.func3, Tryz.ntmps3
    go_wp2_with fail
    refine CN.out.mono ?_
    rintro e w1 ⟨R, rfl, h1, b1⟩
    have H1 := hide h1
    have B1 := hide b1
    clear h1 b1
    go_wp2_with fail
    refine (CR.out w1).mono ?_
    rintro e w2 ⟨rfl, r2, b2⟩
    have PP := hide (pair_new B1.out.size H1.out r2 b2)
    have RL := hide (rel_new (max (50000 : Int) 0).toNat (by omega))
    have B2 := hide (B1.out.trans (b2.mono B1.out.size))
    clear r2 b2 H1
    generalize w1.heap.size = Q at *
    go_wp2_with fail
    go_loopw [7] (fun i wr => ∃ (k : Nat) (S : St) (T : RSt), i = .int .i64 k ∧ k ≤ 30 ∧ Hid (Rel S T) ∧ Hid (NmOk T) ∧ Hid (T.calls ≤ k) ∧ Hid (Pair w.heap.size wr R S Q T) ∧ Hid (Below w.heap.size w wr)) (fun i _ => 30 - (intOf i).toNat)
    case atStart => exact ⟨0, _, _, rfl, by omega, RL, hide ⟨fun x hx => (by cases hx), fun x hx => (by cases hx), fun o ho => (by cases ho)⟩, hide (Nat.le_refl _), PP, B2⟩
    case round =>
      obtain ⟨k, S, T, rfl, hk30, hr, hnm, hcl, hp, hB⟩ := hrel
      by_cases hin : k < len ∧ k < 30
      · obtain ⟨hkl, hk3⟩ := hin
        obtain ⟨o, ob, off, rfl, hob, hok, g0, g1, g2, g3, g4⟩ := HO.out.get hkl
        have c0 := (hB.out.cell (p := ⟨ob, off + k * 5, none⟩) hob).trans g0
        have c1 := (hB.out.cell (p := ⟨ob, off + k * 5 + 1, none⟩) hob).trans g1
        have c2 := (hB.out.cell (p := ⟨ob, off + k * 5 + 2, none⟩) hob).trans g2
        have c3 := (hB.out.cell (p := ⟨ob, off + k * 5 + 3, none⟩) hob).trans g3
        have c4 := (hB.out.cell (p := ⟨ob, off + k * 5 + 4, none⟩) hob).trans g4
        have HOK := hide hok
        have hla := hok.a
        have hlb := hok.b
        have hks : o.ks.length ≤ 9223372036854775807 := by
          obtain ⟨_, cap', e, h1, h2, _⟩ := hok.ks
          injection e with _ _ e
          omega
        clear g0 g1 g2 g3 g4 hok
        obtain ⟨kl, hkd⟩ : ∃ kl, o.ks.length = kl := ⟨_, rfl⟩
        have HKD := hide hkd
        rw [hkd] at c4 hks
        clear hkd
        have DO := hide (fun (ha : o.a.size ≤ 100) (hb : o.b.size ≤ 100) (hk : kl ≤ 100) => do_all hp.out hr.out hnm.out (by have := hcl.out; omega) o.kd o.n HOK.out.n o.a o.b o.ka kl o.kc o.ks ha hb HKD.out (by have h1 := HOK.out.ks; rw [HKD.out] at h1; exact h1.keep fun i _ hi => hB.out.block i hi) hk)
        generalize o.kd = kd at *
        generalize o.n = on at *
        generalize o.a = oa at *
        generalize o.b = obb at *
        generalize o.ka = oka at *
        generalize o.kc = okc at *
        have hlt : (k : Int) < (len : Int) := by omega
        have hlt6 : (k : Int) < 30 := by omega
        by_cases hA : 60 < oa.size
        · have hA' : (60 : Int) < (oa.size : Int) := by omega
          go_wp2_with fail
          refine (CA.out wr).mono ?_
          rintro e w3 ⟨rfl, b3⟩
          have B3 := hide (hB.out.trans (b3.mono hB.out.size))
          clear b3
          go_wp2
          go_ret
          exact ⟨rfl, B3.out⟩
        · have hA' : ¬ (60 : Int) < (oa.size : Int) := by omega
          by_cases hBb : 60 < obb.size
          · have hB' : (60 : Int) < (obb.size : Int) := by omega
            go_wp2_with fail
            refine (CA.out wr).mono ?_
            rintro e w3 ⟨rfl, b3⟩
            have B3 := hide (hB.out.trans (b3.mono hB.out.size))
            clear b3
            go_wp2
            go_ret
            exact ⟨rfl, B3.out⟩
          · have hB' : ¬ (60 : Int) < (obb.size : Int) := by omega
            by_cases hK : 60 < kl
            · have hK' : (60 : Int) < (kl : Int) := by omega
              go_wp2_with fail
              refine (CA.out wr).mono ?_
              rintro e w3 ⟨rfl, b3⟩
              have B3 := hide (hB.out.trans (b3.mono hB.out.size))
              clear b3
              go_wp2
              go_ret
              exact ⟨rfl, B3.out⟩
            · have hK' : ¬ (60 : Int) < (kl : Int) := by omega
              go_wp2_with fail
              refine (DO.out (by omega) (by omega) (by omega)).mono ?_
              rintro e w5 ⟨rfl, S5, T5, r5, n5, k5, p5, b5⟩
              have R5 := hide r5
              have N5 := hide n5
              have K5 := hide k5
              have P5 := hide p5
              have B5 := hide (hB.out.trans b5)
              clear r5 n5 k5 p5 b5 c0 c1 c2 c3 c4
              go_wp2
              go_roundw
              case rel => exact ⟨k + 1, S5, T5, by go_num, by omega, R5, N5, hide (by have h1 := K5.out; have h2 := hcl.out; omega), P5, B5⟩
              case measure => simp [intOf]; omega
      · have hex : (¬ (k : Int) < (len : Int)) ∨ ((k : Int) < (len : Int) ∧ ¬ (k : Int) < 30) := by omega
        have TW := hide (copy_two hp.out hr.out)
        have hc1 : T.calls < 1000 := by have := hcl.out; omega
        have r3 := crash_rel hr.out kk
        have r4 := (create_rel r3 (show (crashT T kk).calls < 1000 from hc1) ⟨#[122, 122]⟩).2
        have hc4 := created_le (crashT T kk) ⟨#[122, 122]⟩
        have k2 : S.calls ≤ 1099511627776 := by rw [hr.out.calls]; omega
        have k3 : (crashS S kk).calls < 1099511627776 := by rw [r3.calls]; have : (crashT T kk).calls = T.calls := rfl; omega
        have k4 : (createS (crashS S kk) ⟨#[122, 122]⟩).2.calls < 1099511627776 := by rw [r4.calls]; have : (crashT T kk).calls = T.calls := rfl; omega
        have CRA := hide (fun W F (h : Held F W R S) hv => crash_h (w := W) ko kn kcap kk rfl h k2 hv)
        have CCA := hide (fun W F (h : Held F W R (crashS S kk)) => create_h ⟨#[122, 122]⟩ (E := (createS (crashS S kk) ⟨#[122, 122]⟩).1) (S' := (createS (crashS S kk) ⟨#[122, 122]⟩).2) rfl h k3 (by decide))
        have APA := hide (fun W F bx (h : Held F W R (createS (crashS S kk) ⟨#[122, 122]⟩).2) hb ht => append_h (w := W) ⟨#[122, 122]⟩ (some ⟨bx, 0, none⟩) 4 4 [109, 111, 114, 101] (E := (appendS (createS (crashS S kk) ⟨#[122, 122]⟩).2 ⟨#[122, 122]⟩ [109, 111, 114, 101]).1) (S' := (appendS (createS (crashS S kk) ⟨#[122, 122]⟩).2 ⟨#[122, 122]⟩ [109, 111, 114, 101]).2) rfl h k4 (by decide) hb (by omega) ht)
        have PCR := hide (fun W Rc (p : Pair w.heap.size W Rc S Q T) hv => crash_p p hr.out ko kn kcap kk HKL.out hv)
        have PRR := hide (fun W Rc S' (p : Pair w.heap.size W Rc S' Q T) hv => crash_r p ko kn kcap kk HKL.out hv (by omega))
        have SM1 := hide (fun W Rc (p : Pair w.heap.size W Rc S Q T) => same_pair p hr.out hnm.out)
        have SM2 := hide (fun W Rc (p : Pair w.heap.size W Rc (crashS S kk) Q (crashT T kk)) => same_pair p (crash_rel hr.out kk) (nm_crash hnm.out kk))
        clear r3 r4 hc4 k3 k4 k2
        generalize (appendS (createS (crashS S kk) ⟨#[122, 122]⟩).2 ⟨#[122, 122]⟩ [109, 111, 114, 101]).1 = E5 at *
        generalize (appendS (createS (crashS S kk) ⟨#[122, 122]⟩).2 ⟨#[122, 122]⟩ [109, 111, 114, 101]).2 = S5 at *
        generalize (createS (crashS S kk) ⟨#[122, 122]⟩).1 = E4 at *
        generalize (createS (crashS S kk) ⟨#[122, 122]⟩).2 = S4 at *
        generalize crashS S kk = S3 at *
        generalize crashT T kk = T3 at *
        rcases hex with hlt | ⟨hlt, hlt3⟩
        all_goals
          go_wp2_with fail
          refine TW.out.mono ?_
          rintro e w3 ⟨Rc, F, rfl, h3, hFB, cl, b3⟩
          have CL := hide cl
          have HFB := hide hFB
          have B3 := hide (hB.out.trans b3)
          have CR3 := hide (CRA.out w3 F h3 ((HK.out.keep fun i _ hi => B3.out.block i hi).wider hFB))
          clear h3 hFB cl b3
          go_wp2_with fail
          refine CR3.out.mono ?_
          rintro e w4 ⟨rfl, h4, s4⟩
          have CC4 := hide (CCA.out w4 F h4)
          have S4' := hide s4
          clear h4 s4 CR3
          go_wp2_with fail
          refine CC4.out.mono ?_
          rintro e w5 ⟨rfl, h5, s5⟩
          obtain ⟨v6, hcv, hb6, hB6, hl6⟩ := conv_lit w5 [109, 111, 114, 101] (by decide) #[.int .u8 109, .int .u8 111, .int .u8 114, .int .u8 101] rfl 4 rfl
          have AP := hide (APA.out _ _ w5.heap.size (h5.wide hb6.out) hB6.out (fun b off h => by cases h; exact .inr ⟨Nat.le_refl _, hl6.out⟩))
          have S6' := hide ((S4'.out.trans s5).trans (h5.same hb6.out).2)
          clear h5 s5 CC4 hb6 hB6 hl6
          go_wp2_with fail
          refine AP.out.mono ?_
          rintro e w7 ⟨rfl, _, s7⟩
          obtain ⟨p7, b7⟩ := CL.out w7 (S6'.out.trans (s7.mono fun i hi => .inl hi))
          have SA := hide (SM1.out w7 Rc p7)
          have B7 := hide (B3.out.trans b7)
          clear p7 b7 s7 AP S6' S4' CL
          go_wp2_with fail
          refine SA.out.mono ?_
          rintro e w8 ⟨rfl, p8, b8⟩
          have B8 := hide (B7.out.trans b8)
          have C8 := hide (PCR.out w8 Rc p8 (HK.out.keep fun i _ hi => B8.out.block i hi))
          clear p8 b8 SA
          go_wp2_with fail
          refine C8.out.mono ?_
          rintro e w9 ⟨rfl, p9, b9⟩
          have B9 := hide (B8.out.trans b9)
          have C9 := hide (PRR.out w9 Rc _ p9 (HK.out.keep fun i _ hi => B9.out.block i hi))
          clear p9 b9 C8
          go_wp2_with fail
          refine C9.out.mono ?_
          rintro e w10 ⟨rfl, p10, b10⟩
          have B10 := hide (B9.out.trans b10)
          have SB := hide (SM2.out w10 Rc p10)
          clear p10 b10 C9
          go_wp2_with fail
          refine SB.out.mono ?_
          rintro e w11 ⟨rfl, p11, b11⟩
          have B11 := hide (B10.out.trans b11)
          clear p11 b11 SB
          go_wp2_with fail
          refine (CA.out w11).mono ?_
          rintro e w12 ⟨rfl, b12⟩
          have B12 := hide (B11.out.trans (b12.mono B11.out.size))
          clear b12
          go_wp2
          go_ret
          exact ⟨rfl, B12.out⟩

end Go.Proofs.YtfogfpanfhmijaaGreat.Clep
