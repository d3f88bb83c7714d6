/- Statement DiskPlays says true, whatever the quota and the row of calls (a walk over the translated program). -/
import Derived.Test.YtfogfpanfhmijaaGreatZd
namespace Go.Proofs.YtfogfpanfhmijaaGreat.Clep
open Go.RowKit Go.Maps
set_option linter.unusedVariables false

set_option maxHeartbeats 8000000 in
set_option maxRecDepth 8000 in
theorem plays_any (q : Int) (ao : Option Addr) (len cap : Nat) (l : List OpR) (w : World) (hq : -9223372036854775808 ≤ q ∧ q ≤ 9223372036854775807) (hO : Ops4 w ao len cap l) (hlen : len ≤ 9223372036854775807) :
    Calls Tryz.prog 4 #[.int .i64 q, .slice ao len cap] w fun e w' => e = .returned (.bool true) ∧ Below w.heap.size w w' := by
  have HO := hide hO
  have CN := hide (fun n (hn : n ≤ 9223372036854775807) => new_z n w hn)
  have CR := hide (fun n W (hn : n ≤ 9223372036854775807) => newT_any n W (fun i => W.heap.size ≤ i) (fun i hi => hi) hn)
  have CA := hide (fun W => awake_any W)
  clear hO
  by_cases hq1 : 100000 < q
  · have ht : 0 ≤ q % 100000 ∧ q % 100000 < 100000 := by omega
    go_enter Tryz.func4, Tryz.ntmps4
    go_wp2_with fail
    generalize q % 100000 = q1 at *
    refine (CN.out _ (by omega)).mono ?_
    rintro e w1 ⟨R, rfl, h1, b1⟩
    have H1 := hide h1
    have B1 := hide b1
    clear h1 b1
    go_wp2_with fail
    refine (CR.out _ w1 (by omega)).mono ?_
    rintro e w2 ⟨rfl, r2, b2⟩
    have PP := hide (pair_new B1.out.size H1.out r2 b2)
    have RL := hide (rel_new (max q1 0).toNat (by omega))
    have B2 := hide (B1.out.trans (b2.mono B1.out.size))
    clear r2 b2 H1
    generalize w1.heap.size = Q at *
    go_wp2_with fail
    refine (CA.out w2).mono ?_
    rintro e w3 ⟨rfl, b3⟩
    have P3 := hide (PP.out.below b3).1
    have B3 := hide (B2.out.trans (b3.mono B2.out.size))
    clear b3 PP B2 B1
    go_wp2_with fail
    go_loopw [7] (fun i wr => ∃ (k : Nat) (S : St) (T : RSt), i = .int .i64 k ∧ k ≤ 60 ∧ Hid (Rel S T) ∧ Hid (NmOk T) ∧ Hid (T.calls ≤ k) ∧ Hid (Pair w.heap.size wr R S Q T) ∧ Hid (Below w.heap.size w wr)) (fun i _ => 60 - (intOf i).toNat)
    case atStart => exact ⟨0, _, _, rfl, by omega, RL, hide ⟨fun x hx => (by cases hx), fun x hx => (by cases hx), fun o ho => (by cases ho)⟩, hide (Nat.le_refl _), P3, B3⟩
    case round =>
      obtain ⟨k, S, T, rfl, hk60, hr, hnm, hcl, hp, hB⟩ := hrel
      by_cases hkl : k < len
      · by_cases hk6 : k < 60
        · obtain ⟨o, ob, off, rfl, hob, hok, g0, g1, g2, g3, g4⟩ := HO.out.get hkl
          have c0 := (hB.out.cell (p := ⟨ob, off + k * 5, none⟩) hob).trans g0
          have c1 := (hB.out.cell (p := ⟨ob, off + k * 5 + 1, none⟩) hob).trans g1
          have c2 := (hB.out.cell (p := ⟨ob, off + k * 5 + 2, none⟩) hob).trans g2
          have c3 := (hB.out.cell (p := ⟨ob, off + k * 5 + 3, none⟩) hob).trans g3
          have c4 := (hB.out.cell (p := ⟨ob, off + k * 5 + 4, none⟩) hob).trans g4
          have HOK := hide hok
          have hla := hok.a
          have hlb := hok.b
          have hks : o.ks.length ≤ 9223372036854775807 := by
            obtain ⟨_, cap', e, h1, h2, _⟩ := hok.ks
            injection e with _ _ e
            omega
          clear g0 g1 g2 g3 g4 hok
          obtain ⟨kl, hkd⟩ : ∃ kl, o.ks.length = kl := ⟨_, rfl⟩
          have HKD := hide hkd
          rw [hkd] at c4 hks
          clear hkd
          have DO := hide (fun (ha : o.a.size ≤ 100) (hb : o.b.size ≤ 100) (hk : kl ≤ 100) => do_all hp.out hr.out hnm.out (by have := hcl.out; omega) o.kd o.n HOK.out.n o.a o.b o.ka kl o.kc o.ks ha hb HKD.out (by have h1 := HOK.out.ks; rw [HKD.out] at h1; exact h1.keep fun i _ hi => hB.out.block i hi) hk)
          generalize o.kd = kd at *
          generalize o.n = on at *
          generalize o.a = oa at *
          generalize o.b = obb at *
          generalize o.ka = oka at *
          generalize o.kc = okc at *
          have hlt : (k : Int) < (len : Int) := by omega
          have hlt6 : (k : Int) < 60 := by omega
          by_cases hA : 100 < oa.size
          · have hA' : (100 : Int) < (oa.size : Int) := by omega
            go_wp2
            go_ret
            exact ⟨rfl, hB.out⟩
          · have hA' : ¬ (100 : Int) < (oa.size : Int) := by omega
            by_cases hBb : 100 < obb.size
            · have hB' : (100 : Int) < (obb.size : Int) := by omega
              go_wp2
              go_ret
              exact ⟨rfl, hB.out⟩
            · have hB' : ¬ (100 : Int) < (obb.size : Int) := by omega
              by_cases hK : 100 < kl
              · have hK' : (100 : Int) < (kl : Int) := by omega
                go_wp2
                go_ret
                exact ⟨rfl, hB.out⟩
              · have hK' : ¬ (100 : Int) < (kl : Int) := by omega
                go_wp2_with fail
                refine (DO.out (by omega) (by omega) (by omega)).mono ?_
                rintro e w5 ⟨rfl, S5, T5, r5, n5, k5, p5, b5⟩
                have R5 := hide r5
                have N5 := hide n5
                have K5 := hide k5
                have SM := hide (same_pair p5 r5 n5)
                have B5 := hide (hB.out.trans b5)
                clear r5 n5 k5 p5 b5 c0 c1 c2 c3 c4
                go_wp2_with fail
                refine SM.out.mono ?_
                rintro e w6 ⟨rfl, p6, b6⟩
                have P6 := hide p6
                have B6 := hide (B5.out.trans b6)
                clear p6 b6 SM
                go_wp2
                go_roundw
                case rel => exact ⟨k + 1, S5, T5, by go_num, by omega, R5, N5, hide (by have h1 := K5.out; have h2 := hcl.out; omega), P6, B6⟩
                case measure => simp [intOf]; omega
        · have hlt : (k : Int) < (len : Int) := by omega
          have hlt6 : ¬ (k : Int) < 60 := by omega
          go_wp2
          go_ret
          exact ⟨rfl, hB.out⟩
      · have hlt : ¬ (k : Int) < (len : Int) := by omega
        go_wp2
        go_ret
        exact ⟨rfl, hB.out⟩
  · go_enter Tryz.func4, Tryz.ntmps4
    go_wp2_with fail
    refine (CN.out _ (by omega)).mono ?_
    rintro e w1 ⟨R, rfl, h1, b1⟩
    have H1 := hide h1
    have B1 := hide b1
    clear h1 b1
    go_wp2_with fail
    refine (CR.out _ w1 (by omega)).mono ?_
    rintro e w2 ⟨rfl, r2, b2⟩
    have PP := hide (pair_new B1.out.size H1.out r2 b2)
    have RL := hide (rel_new (max q 0).toNat (by omega))
    have B2 := hide (B1.out.trans (b2.mono B1.out.size))
    clear r2 b2 H1
    generalize w1.heap.size = Q at *
    go_wp2_with fail
    refine (CA.out w2).mono ?_
    rintro e w3 ⟨rfl, b3⟩
    have P3 := hide (PP.out.below b3).1
    have B3 := hide (B2.out.trans (b3.mono B2.out.size))
    clear b3 PP B2 B1
    go_wp2_with fail
    go_loopw [7] (fun i wr => ∃ (k : Nat) (S : St) (T : RSt), i = .int .i64 k ∧ k ≤ 60 ∧ Hid (Rel S T) ∧ Hid (NmOk T) ∧ Hid (T.calls ≤ k) ∧ Hid (Pair w.heap.size wr R S Q T) ∧ Hid (Below w.heap.size w wr)) (fun i _ => 60 - (intOf i).toNat)
    case atStart => exact ⟨0, _, _, rfl, by omega, RL, hide ⟨fun x hx => (by cases hx), fun x hx => (by cases hx), fun o ho => (by cases ho)⟩, hide (Nat.le_refl _), P3, B3⟩
    case round =>
      obtain ⟨k, S, T, rfl, hk60, hr, hnm, hcl, hp, hB⟩ := hrel
      by_cases hkl : k < len
      · by_cases hk6 : k < 60
        · obtain ⟨o, ob, off, rfl, hob, hok, g0, g1, g2, g3, g4⟩ := HO.out.get hkl
          have c0 := (hB.out.cell (p := ⟨ob, off + k * 5, none⟩) hob).trans g0
          have c1 := (hB.out.cell (p := ⟨ob, off + k * 5 + 1, none⟩) hob).trans g1
          have c2 := (hB.out.cell (p := ⟨ob, off + k * 5 + 2, none⟩) hob).trans g2
          have c3 := (hB.out.cell (p := ⟨ob, off + k * 5 + 3, none⟩) hob).trans g3
          have c4 := (hB.out.cell (p := ⟨ob, off + k * 5 + 4, none⟩) hob).trans g4
          have HOK := hide hok
          have hla := hok.a
          have hlb := hok.b
          have hks : o.ks.length ≤ 9223372036854775807 := by
            obtain ⟨_, cap', e, h1, h2, _⟩ := hok.ks
            injection e with _ _ e
            omega
          clear g0 g1 g2 g3 g4 hok
          obtain ⟨kl, hkd⟩ : ∃ kl, o.ks.length = kl := ⟨_, rfl⟩
          have HKD := hide hkd
          rw [hkd] at c4 hks
          clear hkd
          have DO := hide (fun (ha : o.a.size ≤ 100) (hb : o.b.size ≤ 100) (hk : kl ≤ 100) => do_all hp.out hr.out hnm.out (by have := hcl.out; omega) o.kd o.n HOK.out.n o.a o.b o.ka kl o.kc o.ks ha hb HKD.out (by have h1 := HOK.out.ks; rw [HKD.out] at h1; exact h1.keep fun i _ hi => hB.out.block i hi) hk)
          generalize o.kd = kd at *
          generalize o.n = on at *
          generalize o.a = oa at *
          generalize o.b = obb at *
          generalize o.ka = oka at *
          generalize o.kc = okc at *
          have hlt : (k : Int) < (len : Int) := by omega
          have hlt6 : (k : Int) < 60 := by omega
          by_cases hA : 100 < oa.size
          · have hA' : (100 : Int) < (oa.size : Int) := by omega
            go_wp2
            go_ret
            exact ⟨rfl, hB.out⟩
          · have hA' : ¬ (100 : Int) < (oa.size : Int) := by omega
            by_cases hBb : 100 < obb.size
            · have hB' : (100 : Int) < (obb.size : Int) := by omega
              go_wp2
              go_ret
              exact ⟨rfl, hB.out⟩
            · have hB' : ¬ (100 : Int) < (obb.size : Int) := by omega
              by_cases hK : 100 < kl
              · have hK' : (100 : Int) < (kl : Int) := by omega
                go_wp2
                go_ret
                exact ⟨rfl, hB.out⟩
              · have hK' : ¬ (100 : Int) < (kl : Int) := by omega
                go_wp2_with fail
                refine (DO.out (by omega) (by omega) (by omega)).mono ?_
                rintro e w5 ⟨rfl, S5, T5, r5, n5, k5, p5, b5⟩
                have R5 := hide r5
                have N5 := hide n5
                have K5 := hide k5
                have SM := hide (same_pair p5 r5 n5)
                have B5 := hide (hB.out.trans b5)
                clear r5 n5 k5 p5 b5 c0 c1 c2 c3 c4
                go_wp2_with fail
                refine SM.out.mono ?_
                rintro e w6 ⟨rfl, p6, b6⟩
                have P6 := hide p6
                have B6 := hide (B5.out.trans b6)
                clear p6 b6 SM
                go_wp2
                go_roundw
                case rel => exact ⟨k + 1, S5, T5, by go_num, by omega, R5, N5, hide (by have h1 := K5.out; have h2 := hcl.out; omega), P6, B6⟩
                case measure => simp [intOf]; omega
        · have hlt : (k : Int) < (len : Int) := by omega
          have hlt6 : ¬ (k : Int) < 60 := by omega
          go_wp2
          go_ret
          exact ⟨rfl, hB.out⟩
      · have hlt : ¬ (k : Int) < (len : Int) := by omega
        go_wp2
        go_ret
        exact ⟨rfl, hB.out⟩

end Go.Proofs.YtfogfpanfhmijaaGreat.Clep
