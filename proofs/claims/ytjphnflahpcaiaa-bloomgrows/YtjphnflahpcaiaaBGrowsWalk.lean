/- BloomGrows, the walk over the translated program: for any rows. No conditions. -/
import Derived.Test.YtjphnflahpcaiaaBOne
import Derived.Test.YtjphnflahpcaiaaBRows
namespace Go.Proofs.Ytjphnflahpcaiaa.Clep
open Go.RowKit
set_option linter.unusedVariables false

set_option maxRecDepth 100000 in
set_option maxHeartbeats 3200000 in
theorem grows_any (a0 : Option Addr) (len0 cap0 : Nat) (zss : List (List Int)) (w : World) (hm : len0 ≤ 9223372036854775807) (h : Bss w a0 len0 cap0 zss) :
    Calls Try.prog 7 #[.slice a0 len0 cap0] w fun e w' => e = .returned (.bool true) ∧ Below w.heap.size w w' := by
  obtain ⟨b, off, ha, HK⟩ := bss_at h
  have C1 := hide (one_new w w (fun _ => False) 60 10 (by decide) (by decide) (Nat.le_refl _) (fun b e => e.elim))
  rw [show kOf 10 = 7 from rfl, show sOf 60 10 = 75 from rfl] at C1
  have CH := hide (fun W M N a l c z => fun h hm hz hk => one_has w W (fun _ => False) M 7 75 N h a l c z hm hz hk)
  have CA := hide (fun W M N a l c z => fun h hm hz hk => one_add w W (fun _ => False) M 7 75 N h a l c z hm hz hk)
  have CO := hide (fun W M N => fun h => one_ones w W (fun _ => False) M 7 75 N h)
  clear h
  go_enter Try.func7, Try.ntmps7
  go_wp2_with fail
  refine C1.out.mono ?_
  rintro e w1 ⟨M, rfl, h1, b1, -, -⟩
  have O1 := hide h1
  have B1 := hide b1
  clear h1 b1 C1
  go_wp2
  go_loopw [5, 6] (fun v u wr => ∃ i N : Nat, u = .int .i64 i ∧ i ≤ 60 ∧ i ≤ len0 ∧ v = .int .i64 (pc 600 N : Nat) ∧ Hid (pc 600 N ≤ 7 * i) ∧ Hid (∀ j, j < i → hask (fnv (zss.getD j [])) 75 7 N = true) ∧ Hid (One w wr (fun _ => False) M 7 75 N) ∧ Hid (Below w.heap.size w wr)) (fun _ u _ => len0 - (intOf u).toNat)
  case atStart => exact ⟨0, 0, rfl, by omega, by omega, by rw [pc_zero]; rfl, hide (by rw [pc_zero]; omega), hide (fun j hj => by omega), O1, B1⟩
  case round =>
    obtain ⟨i, N, rfl, hi, hil, rfl, hpc, hal, hO, hB⟩ := hrel
    by_cases hlt : i < len0
    · by_cases h60 : i < 60
      · obtain ⟨a', l, c, hcell, hl, hz⟩ := HK.out i hlt
        have HW := hide hcell
        have HZ := hide hz
        obtain rfl := ha (by omega)
        have q1 := (hcell wr hB.out).1
        by_cases hl2 : 200 < l
        · clear hcell hz
          go_wp2_with fail
          refine (awake_any wr).mono ?_
          rintro e w2 ⟨rfl, hb⟩
          have HB2 := hide (hB.out.trans (hb.mono hB.out.size))
          clear hb
          go_wp2
          go_ret
          exact ⟨rfl, HB2.out⟩
        · clear hcell hz
          generalize hZ : zss.getD i [] = z at *
          have HZZ := hide hZ
          clear hZ
          go_wp2_with fail
          refine (CH.out wr M N a' l c z hO.out hl (HW.out wr hB.out).2 (key_of HZ.out _)).mono ?_
          rintro e w2 ⟨rfl, h1, h2⟩
          have O2 := hide h1
          have B2 := hide (h2.below hB.out)
          have q2 := (HW.out w2 B2.out).1
          clear h1 h2
          go_wp2_with fail
          refine (CA.out w2 M N a' l c z O2.out hl (HW.out w2 B2.out).2 (key_of HZ.out _)).mono ?_
          rintro e w3 ⟨rfl, h1, h2⟩
          have O3 := hide h1
          have B3 := hide (h2.below B2.out)
          clear h1 h2
          go_wp2_with fail
          refine (CO.out w3 M _ O3.out).mono ?_
          rintro e w4 ⟨rfl, h1, h2⟩
          have O4 := hide h1
          have B4 := hide (h2.below B3.out)
          clear h1 h2 q1 q2
          obtain ⟨p1, p2, p3⟩ := pc_addk (fnv z) 75 N (by decide) 7
          have HA : Hid (∀ j, j < i + 1 → hask (fnv (zss.getD j [])) 75 7 (addk (fnv z) 75 7 N) = true) := hide fun j hj => by
            rcases Nat.lt_or_ge j i with e | e
            · exact hask_mono (addk_more _ _ _ _) (hal.out j e)
            · rw [show j = i by omega, HZZ.out]; exact hask_add _ _ _ _
          have hsame : hask (fnv z) 75 7 N = true → pc (8 * 75) (addk (fnv z) 75 7 N) = pc (8 * 75) N := fun e => by rw [addk_same e]
          have hpc' := hpc.out
          rw [show 8 * 75 = 600 from rfl] at *
          have HM : Hid (pc 600 (addk (fnv z) 75 7 N) = pc 600 (addk (fnv z) 75 7 N)) := hide rfl
          have key : (hask (fnv z) 75 7 N = true ∧ pc 600 (addk (fnv z) 75 7 N) = pc 600 N) ∨ (hask (fnv z) 75 7 N = false ∧ (((pc 600 (addk (fnv z) 75 7 N) : Nat) : Int) == ((pc 600 N : Nat) : Int)) = false) := by
            cases hx : hask (fnv z) 75 7 N with
            | true => exact .inl ⟨rfl, hsame hx⟩
            | false => exact .inr ⟨rfl, beq_eq_false_iff_ne.2 (by have := p3 hx; omega)⟩
          clear p3 hsame
          have HR : Hid (pc 600 (addk (fnv z) 75 7 N) ≤ 7 * (i + 1)) := hide (by omega)
          generalize hN2 : addk (fnv z) 75 7 N = N2 at *
          generalize hr : pc 600 N = r at *
          generalize hr2 : pc 600 N2 = r2 at *
          have HR2 := hide hr2
          have hr3 : r2 ≤ 7 * (i + 1) := HR.out
          clear hN2 hr hr2 HR HM
          rcases key with ⟨hh, rfl⟩ | ⟨hh, hne2⟩
          all_goals
            rw [hh]
            clear hh
            go_wp2
            rename_i hq
            clear hq
            try clear hne2
            have HR3 := hide hr3
            clear hr3 p1 p2 hpc'
            go_loopw [9] (fun u wr => ∃ j : Nat, u = .int .i64 j ∧ j ≤ i + 1 ∧ Hid (One w wr (fun _ => False) M 7 75 N2) ∧ Hid (Below w.heap.size w wr)) (fun u _ => i + 1 - (intOf u).toNat)
            case atStart => exact ⟨0, rfl, by omega, O4, B4⟩
            case round =>
              obtain ⟨j, rfl, hj, hOj, hBj⟩ := hrel
              by_cases hji : j ≤ i
              · obtain ⟨a2, l2, c2, hcell2, hl2', hz2⟩ := HK.out j (by omega)
                have q3 := (hcell2 _ hBj.out).1
                have HW2 := hide (hcell2 _ hBj.out).2
                have HZ2 := hide hz2
                have HT := hide (HA.out j (by omega))
                clear hcell2 hz2
                generalize zss.getD j [] = z2 at *
                go_wp2_with fail
                refine (CH.out _ M N2 a2 l2 c2 z2 hOj.out hl2' HW2.out (key_of HZ2.out _)).mono ?_
                rintro e w5 ⟨rfl, h1, h2⟩
                have O5 := hide h1
                have B5 := hide (h2.below hBj.out)
                clear h1 h2
                rw [HT.out]
                go_wp2
                go_round
                case rel => exact ⟨j + 1, by go_num, by omega, O5, B5⟩
                case measure => simp [intOf]; omega
              · go_wp2
                go_round
                case rel => exact ⟨i + 1, N2, by go_num, by omega, by omega, by rw [HR2.out], hide (by rw [HR2.out]; exact HR3.out), HA, hOj, hBj⟩
                case measure => simp [intOf]; omega
      · go_wp2_with fail
        refine (awake_any wr).mono ?_
        rintro e w2 ⟨rfl, hb⟩
        have HB2 := hide (hB.out.trans (hb.mono hB.out.size))
        clear hb
        go_wp2
        go_ret
        exact ⟨rfl, HB2.out⟩
    · go_wp2_with fail
      refine (awake_any wr).mono ?_
      rintro e w2 ⟨rfl, hb⟩
      have HB2 := hide (hB.out.trans (hb.mono hB.out.size))
      clear hb
      go_wp2
      go_ret
      exact ⟨rfl, HB2.out⟩

end Go.Proofs.Ytjphnflahpcaiaa.Clep
