/- SkipPlays: items are put in their order, each up to its height; what is told is what the statement's own rows hold, walked. No conditions. -/
import Derived.Test.YtakpapgjdpnedaaTPlaysTail
namespace Go.Proofs.Ytakpapgjdpnedaa.Clep
open Go.RowKit
set_option linter.unusedVariables false

set_option maxRecDepth 100000 in
set_option maxHeartbeats 8000000 in
theorem plays_any (a0 a1 a2 : Option Addr) (n0 c0 n1 c1 n2 c2 : Nat) (l0 l2 : List It) (zs : List Int) (w : World) (h0 : Is w a0 n0 c0 l0) (h1 : Zs w a1 n1 zs) (h2 : Is w a2 n2 c2 l2) (m0 : n0 ≤ 9223372036854775807) (m1 : n1 ≤ 9223372036854775807) (m2 : n2 ≤ 9223372036854775807) :
    Calls Try.prog 3 #[.slice a0 n0 c0, .slice a1 n1 c1, .slice a2 n2 c2] w fun e w' => e = .returned (.bool true) ∧ Below w.heap.size w w' := by
  have L0 := hide h0.1
  have L1 := hide h1.1
  have L2 := hide h2.1
  have W0 := hide h0.2.2.1
  have H0 := hide (fun W (hW : Below w.heap.size w W) => h0.below hW (Nat.le_refl _))
  have H1 := hide (fun W (hW : Below w.heap.size w W) => h1.below hW)
  have H2 := hide (fun W (hW : Below w.heap.size w W) => h2.below hW (Nat.le_refl _))
  clear h0 h1 h2
  go_enter Try.func3, Try.ntmps3
  go_wp2_with fail
  refine (new_h w).mono ?_
  rintro e w1 ⟨L, rfl, hh, b1⟩
  have P1 : Hid (Pl w w1 L [] [] (.slice none 0 0) (.slice none 0 0)) := hide ⟨⟨_, hh, fun b hb => hb.1, fun k hk => (by rcases hk with e | e <;> cases e)⟩, ownI_nil _ _, World.ownsRow_nil _ _ _ _, fun k hk => (by cases hk), (by simp), b1⟩
  clear hh b1
  go_wp2_with fail
  refine (awake_any _).mono ?_
  rintro e w2 ⟨rfl, b2⟩
  have P2 := hide (P1.out.keep b2)
  clear b2 P1
  go_upto_block 0 with fail
  go_cut [8, 9, 10, 11, 12, 13, 14, 15, 16, 17] from 35 to 136 (fun s8 s9 s10 s11 s12 s13 s14 s15 s16 s17 wx => ∃ us, Hid (Pl w wx L us us s8 s9) ∧ Hid (us.length ≤ 60))
  case first =>
    go_wp2_with fail
    go_loopw [8, 9, 10, 11, 12, 13, 14, 15, 16, 17] (fun s8 s9 s10 s11 s12 s13 s14 s15 s16 s17 wr => ∃ (i : Nat) (us : List (It × Nat)), s10 = .int .i64 i ∧ Hid (Pl w wr L us us s8 s9) ∧ us.length ≤ i ∧ i ≤ n0 ∧ i ≤ n1 ∧ i ≤ 60) (fun _ _ s10 _ _ _ _ _ _ _ _ => 61 - (intOf s10).toNat)
    case atStart => exact ⟨0, [], rfl, P2, by simp, by omega, by omega, by omega⟩
    case round =>
      obtain ⟨i, us, rfl, hpl, hul, hi0, hi1, hi60⟩ := hrel
      by_cases hg : i < n0 ∧ i < n1 ∧ i < 60
      · obtain ⟨g0, g1, g60⟩ := hg
        obtain ⟨b0, f0, ea, hcc⟩ := (H0.out _ hpl.out.bel).2.2.2 (by omega)
        obtain ⟨b1, f1, eb, hcd⟩ := (H1.out _ hpl.out.bel).2 (by omega)
        subst ea eb
        obtain ⟨y, hy⟩ : ∃ y, l0[i]? = some y := ⟨_, List.getElem?_eq_getElem (by rw [L0.out]; omega)⟩
        have hv := hcc i y hy
        have hz := hcd i g1
        have hwx := W0.out _ (List.mem_of_getElem? hy)
        obtain ⟨z, hzz⟩ : ∃ z, zs.getD i 0 = z := ⟨_, rfl⟩
        rw [hzz] at hz
        obtain ⟨S, K, T, V, X⟩ := y
        unfold Vt at hv
        simp only at hv
        have HV := hide hv
        have A0 := (Below.refl wr.heap.size wr).alloc (Nat.le_refl _) (Obj.cells #[Value.int IntKind.i64 0, Value.int IntKind.i64 0, Value.int IntKind.u64 0, Value.int IntKind.u64 0, Value.int IntKind.i64 0] 29)
        have A1 := (Below.refl wr.heap.size wr).alloc (Nat.le_refl _) (Obj.cells #[Value.int IntKind.i64 S, Value.int IntKind.i64 K, Value.int IntKind.u64 T, Value.int IntKind.u64 V, Value.int IntKind.i64 X] 29)
        have hv1 := hv.keep A0
        have hz1 := (A0.cell (p := ⟨b1, f1 + i, none⟩) (World.block_lt_of_cell? wr _ hz)).trans hz
        have hz2 := (A1.cell (p := ⟨b1, f1 + i, none⟩) (World.block_lt_of_cell? wr _ hz)).trans hz
        unfold Vi at hv hv1
        obtain ⟨v0, v1, v2, v3, v4⟩ := hv
        obtain ⟨x0, x1, x2, x3, x4⟩ := hv1
        have HWX := hide hwx
        have HA1 := hide A1
        clear hcc hcd hy hzz hwx A0 A1
        go_wp2_with fail
        go_region
        obtain ⟨w3, hw3⟩ : ∃ w3, w3 = (wr.alloc (Obj.cells #[Value.int IntKind.i64 S, Value.int IntKind.i64 K, Value.int IntKind.u64 T, Value.int IntKind.u64 V, Value.int IntKind.i64 X] 29)).drew := ⟨_, rfl⟩
        obtain ⟨R, hR⟩ : ∃ R, R = wr.heap.size := ⟨_, rfl⟩
        have BW3 : Below wr.heap.size wr w3 := by rw [hw3]; exact HA1.out.drew
        have hvx : Vi w3 R 0 S K T V X := by rw [hw3, hR]; exact vi_new wr S K T V X
        have hRn : ∀ k, u8.ownBlock = some k → k ≠ R := fun k hk => by
          have := (World.ownsRow.lt hpl.out.o8 k hk).2
          omega
        have HRN := hide hRn
        have CP := hide (pl_put w wr w3 L us us u8 u9 S K T V X z R hpl.out hR BW3 hvx HWX.out (by omega))
        have VX3 := hide hvx
        unfold Vi at hvx
        simp only [Nat.zero_add] at hvx
        rw [← hw3, ← hR]
        clear v0 v1 v2 v3 v4 x0 x1 x2 x3 x4 hz hz1 hz2 HA1 hw3 hR BW3 hRn HV
        obtain ⟨v0, v1, v2, v3, v4⟩ := hvx
        have CO := hide (refok_any S K T V X)
        by_cases hbad : okI S K T V X = false ∨ z < 1 ∨ 6 < z
        · rw [show putA ⟨S, K, T, V, X⟩ z us = ((false, 1), us) from by
            unfold putA
            rw [if_neg]
            rintro ⟨q1, q2, q3⟩
            rcases hbad with e | e | e
            · exact absurd (q1.symm.trans e) (by simp)
            · omega
            · omega] at CP
          go_wp2_with fail
          refine CP.out.mono ?_
          rintro e w4 ⟨rfl, hp4, hv4⟩
          have P4 := hide hp4
          have VX4 := hide hv4
          unfold Vi at hv4
          simp only [Nat.zero_add] at hv4
          clear v0 v1 v2 v3 v4 CP hp4
          obtain ⟨v0, v1, v2, v3, v4⟩ := hv4
          cases ho : okI S K T V X with
          | false =>
            rw [ho] at CO
            clear ho hbad
            go_wp2_with fail
            refine (CO.out _).mono ?_
            rintro e w5 ⟨rfl, b5⟩
            have P5 := hide (P4.out.keep b5)
            clear b5 v0 v1 v2 v3 v4
            go_wp2_with fail
            go_roundw
            case rel => first | exact ⟨i + 1, us, by go_num, P5, by omega, by omega, by omega, by omega⟩ | ((repeat apply Exists.intro); exact ⟨⟨i + 1, us, by go_num, P5, by omega, by omega, by omega, by omega⟩, rfl⟩)
            case measure => simp [intOf]; omega
          | true =>
            rw [ho] at CO hbad
            have hb2 : z < 1 ∨ (¬ z < 1 ∧ 6 < z) := by simp at hbad; omega
            clear ho hbad
            go_wp2_with fail
            refine (CO.out _).mono ?_
            rintro e w5 ⟨rfl, b5⟩
            have P5 := hide (P4.out.keep b5)
            clear b5 v0 v1 v2 v3 v4
            rcases hb2 with hb2 | ⟨hb2, hb3⟩
            · go_wp2_with fail
              go_roundw
              case rel => first | exact ⟨i + 1, us, by go_num, P5, by omega, by omega, by omega, by omega⟩ | ((repeat apply Exists.intro); exact ⟨⟨i + 1, us, by go_num, P5, by omega, by omega, by omega, by omega⟩, rfl⟩)
              case measure => simp [intOf]; omega
            · go_wp2_with fail
              go_roundw
              case rel => first | exact ⟨i + 1, us, by go_num, P5, by omega, by omega, by omega, by omega⟩ | ((repeat apply Exists.intro); exact ⟨⟨i + 1, us, by go_num, P5, by omega, by omega, by omega, by omega⟩, rfl⟩)
              case measure => simp [intOf]; omega
        · have hok : okI S K T V X = true := by
            cases ho : okI S K T V X with
            | true => rfl
            | false => exact absurd (.inl ho) hbad
          have hz1 : ¬ z < 1 := fun e => hbad (.inr (.inl e))
          have hz6 : ¬ 6 < z := fun e => hbad (.inr (.inr e))
          rw [hok] at CO
          obtain ⟨hh, ehh⟩ : ∃ hh : Nat, z = hh := ⟨z.toNat, by omega⟩
          rw [show putA ⟨S, K, T, V, X⟩ z us = (((putW ⟨S, K, T, V, X⟩ hh us).1, 0), (putW ⟨S, K, T, V, X⟩ hh us).2) from by
            unfold putA
            rw [if_pos ⟨hok, by omega, by omega⟩, show z.toNat = hh from by omega]] at CP
          have HHH := hide (show 1 ≤ hh ∧ hh ≤ 6 by omega)
          have EZ := hide ehh
          clear hbad hok ehh
          go_wp2_with fail
          refine CP.out.mono ?_
          rintro e w4 ⟨rfl, hp4, hv4⟩
          have P4 := hide hp4
          have VX4 := hide hv4
          unfold Vi at hv4
          simp only [Nat.zero_add] at hv4
          clear v0 v1 v2 v3 v4 CP hp4
          obtain ⟨v0, v1, v2, v3, v4⟩ := hv4
          obtain ⟨r, hr⟩ : ∃ r, (putW ⟨S, K, T, V, X⟩ hh us).1 = r := ⟨_, rfl⟩
          have HRR := hide hr
          simp only
          rw [hr]
          clear hr
          go_wp2_with fail
          refine (CO.out _).mono ?_
          rintro e w5 ⟨rfl, b5⟩
          have P5 := hide (P4.out.keep b5)
          have hv5 := VX4.out.keep b5
          have VX5 := hide hv5
          unfold Vi at hv5
          simp only [Nat.zero_add] at hv5
          clear b5 v0 v1 v2 v3 v4 VX4 P4
          obtain ⟨v0, v1, v2, v3, v4⟩ := hv5
          obtain ⟨ao, cap, e8, hcap, hnc, his, hfo⟩ := P5.out.form
          subst e8
          have HFO := hide hfo
          have HNC := hide hnc
          have CA := hide (at_any ao us.length cap (fsts us) S K T V X w5 his (by omega))
          have HCAP := hide hcap
          clear his hfo hcap hnc
          go_wp2_with fail
          refine CA.out.mono ?_
          rintro e w6 ⟨rfl, b6⟩
          have P6 := hide (P5.out.keep b6)
          have hv6 := VX5.out.keep b6
          have VX6 := hide hv6
          unfold Vi at hv6
          simp only [Nat.zero_add] at hv6
          clear b6 v0 v1 v2 v3 v4 VX5 P5 CA
          obtain ⟨v0, v1, v2, v3, v4⟩ := hv6
          obtain ⟨k, hk⟩ : ∃ k, posL ⟨S, K, T, V, X⟩ (fsts us) = k := ⟨_, rfl⟩
          rw [hk]
          cases hisl : isL ⟨S, K, T, V, X⟩ (fsts us) with
          | true =>
            obtain ⟨y, g, q1, q2, q3⟩ := putW_is ⟨S, K, T, V, X⟩ hh us hisl
            rw [hk] at q1 q3
            have hkl : k < us.length := (List.getElem?_eq_some_iff.1 q1).1
            obtain ⟨g8, rfl⟩ : ∃ g8, ao = some ⟨g8, 0, none⟩ := by
              rcases HFO.out with ⟨_, e, _⟩ | e
              · omega
              · exact e
            obtain ⟨d, hd⟩ : ∃ d, It.wins ⟨S, K, T, V, X⟩ y = d := ⟨_, rfl⟩
            rw [hd] at q3
            have hrd : r = d := by
              rw [← HRR.out, q3]
              cases d with
              | true => rfl
              | false => rfl
            subst hrd
            have HQ2 := hide (show (putW ⟨S, K, T, V, X⟩ hh us).2 = if r then us.set k (⟨S, K, T, V, X⟩, g) else us by
              rw [q3]
              cases r with
              | true => rfl
              | false => rfl)
            have hI6 := P6.out.is
            obtain ⟨ao', cap', e', _, hI6, _⟩ := hI6
            injection e' with e1 e2 e3
            subst e1 e3
            obtain ⟨b', off', e4, hcc⟩ := hI6.2.2.2 (by omega)
            cases e4
            have hfy : (fsts us)[k]? = some y := by unfold fsts; rw [List.getElem?_map, q1]; rfl
            have hvy := hcc k y hfy
            rw [Nat.zero_add] at hvy
            have HVY := hide hvy
            obtain ⟨S1, K1, T1, V1, X1⟩ := y
            unfold Vt at HVY
            simp only at HVY
            have HQ1 := hide q1
            have hne : Nonempty (Kp w6) := ⟨⟨_, Below.refl _ _⟩⟩
            have d0 : ∀ p : Kp w6, p.W.cell? ⟨R, 0, none⟩ = some (.int .i64 S) := fun p => (Vi.keep VX6.out p.h).1
            have d1 : ∀ p : Kp w6, p.W.cell? ⟨R, 1, none⟩ = some (.int .i64 K) := fun p => (Vi.keep VX6.out p.h).2.1
            have d2 : ∀ p : Kp w6, p.W.cell? ⟨R, 2, none⟩ = some (.int .u64 T) := fun p => (Vi.keep VX6.out p.h).2.2.1
            have d3 : ∀ p : Kp w6, p.W.cell? ⟨R, 3, none⟩ = some (.int .u64 V) := fun p => (Vi.keep VX6.out p.h).2.2.2.1
            have d4 : ∀ p : Kp w6, p.W.cell? ⟨R, 4, none⟩ = some (.int .i64 X) := fun p => (Vi.keep VX6.out p.h).2.2.2.2
            have f0 : ∀ p : Kp w6, p.W.cell? ⟨g8, k * 5, none⟩ = some (.int .i64 S1) := fun p => (HVY.out.keep p.h).1
            have f1 : ∀ p : Kp w6, p.W.cell? ⟨g8, k * 5 + 1, none⟩ = some (.int .i64 K1) := fun p => (HVY.out.keep p.h).2.1
            have f2 : ∀ p : Kp w6, p.W.cell? ⟨g8, k * 5 + 2, none⟩ = some (.int .u64 T1) := fun p => (HVY.out.keep p.h).2.2.1
            have f3 : ∀ p : Kp w6, p.W.cell? ⟨g8, k * 5 + 3, none⟩ = some (.int .u64 V1) := fun p => (HVY.out.keep p.h).2.2.2.1
            have f4 : ∀ p : Kp w6, p.W.cell? ⟨g8, k * 5 + 4, none⟩ = some (.int .i64 X1) := fun p => (HVY.out.keep p.h).2.2.2.2
            have cs : Hid (∀ p : Kp w6, Calls Try.prog 11 #[.agg #[.int .i64 S, .int .i64 K, .int .u64 T, .int .u64 V, .int .i64 X], .agg #[.int .i64 S1, .int .i64 K1, .int .u64 T1, .int .u64 V1, .int .i64 X1]] p.W fun e w'' => e = .returned (.bool r) ∧ ∃ q : Kp w6, w'' = q.W) := hide fun p => kp_call (by rw [← hd]; exact refwins_any S K T V X S1 K1 T1 V1 X1 _)
            have hs3 : (k : Int) < (us.length : Int) := by omega
            clear q1 q2 q3 hd hI6 hcc hfy hvy hisl hk v0 v1 v2 v3 v4
            go_wp2_with fail
            refine wp_region_kept (by kernel_rfl) (by kernel_rfl) ?_
            repeat (first
              | go_big_quiet_step (first | (go_at_call 11; exact cs.out _))
              | fail)
            refine wpQuiet_nil ?_
            intro w7 hw'
            have HB7 : Hid (Below w6.heap.size w6 w7) := by
              obtain ⟨⟨w3', hb3⟩, hw''⟩ := hw'
              rw [hw'']; exact hide hb3
            clear hw' hne d0 d1 d2 d3 d4 f0 f1 f2 f3 f4 cs
            have P7 := hide (P6.out.keep HB7.out)
            have VX7 := hide (VX6.out.keep HB7.out)
            have VY7 := hide (HVY.out.keep HB7.out)
            rw [HQ2.out] at P7
            cases r with
            | false =>
              have P8 : Hid (Pl w w7 L us us (.slice (some ⟨g8, 0, none⟩) us.length cap) u9) := P7
              go_wp2_with fail
              go_roundw
              case rel => first | exact ⟨i + 1, us, by go_num, P8, by omega, by omega, by omega, by omega⟩ | ((repeat apply Exists.intro); exact ⟨⟨i + 1, us, by go_num, P8, by omega, by omega, by omega, by omega⟩, rfl⟩)
              case measure => simp [intOf]; omega
            | true =>
              have P8 : Hid (Pl w w7 L (us.set k (⟨S, K, T, V, X⟩, g)) us (.slice (some ⟨g8, 0, none⟩) us.length cap) u9) := P7
              have P9 := hide (pl_set P8.out HQ1.out HWX.out)
              have qx := VX7.out
              have qy := VY7.out
              unfold Vi at qx qy
              simp only [Nat.zero_add] at qx
              obtain ⟨v0, v1, v2, v3, v4⟩ := qx
              obtain ⟨x0, x1, x2, x3, x4⟩ := qy
              have hfr : ∀ j, w7.frozen? ⟨g8, j, none⟩ = false := fun j => World.ownsRow.frozenAt (by
                have := P8.out.o8
                unfold OwnI at this
                rwa [show (fsts us).length = us.length from by simp [fsts]] at this) j
              have z0 := hfr (k * 5)
              have z1 := hfr (k * 5 + 1)
              have z2 := hfr (k * 5 + 2)
              have z3 := hfr (k * 5 + 3)
              have z4 := hfr (k * 5 + 4)
              have hln : Hid ((us.set k ((⟨S, K, T, V, X⟩ : It), g)).length = us.length) := hide (by simp)
              clear hfr
              go_wp2_with fail
              go_roundw
              case rel => first | exact ⟨i + 1, us.set k (⟨S, K, T, V, X⟩, g), by go_num, P9, by rw [hln.out]; omega, by omega, by omega, by omega⟩ | ((repeat apply Exists.intro); exact ⟨⟨i + 1, us.set k (⟨S, K, T, V, X⟩, g), by go_num, P9, by rw [hln.out]; omega, by omega, by omega, by omega⟩, rfl⟩)
              case measure => simp [intOf]; omega
          | false =>
            have hnot := putW_not ⟨S, K, T, V, X⟩ hh us hisl
            rw [hk] at hnot
            obtain ⟨us', hus'⟩ : ∃ us', us' = us.take k ++ (⟨S, K, T, V, X⟩, hh) :: us.drop k := ⟨_, rfl⟩
            rw [← hus'] at hnot
            have hrt : r = true := by rw [← HRR.out, hnot]
            subst hrt
            rw [hnot] at P6
            have hkl : k ≤ us.length := by
              have := posL_le ⟨S, K, T, V, X⟩ (fsts us)
              rw [hk] at this
              simpa [fsts] using this
            have HFI := hide (show fsts us' = (fsts us).take k ++ [(⟨S, K, T, V, X⟩ : It)] ++ (fsts us).drop k by rw [hus', fsts_ins])
            have HSI := hide (show snds us' = (snds us).take k ++ [(hh : Int)] ++ (snds us).drop k by rw [hus', snds_ins])
            have HUL := hide (show us'.length = us.length + 1 by rw [hus']; simp; omega)
            have HUW : Hid (∀ p ∈ us', p.1.wf ∧ 1 ≤ p.2 ∧ p.2 ≤ 6) := hide fun p hp => by
              rw [hus'] at hp
              rcases List.mem_append.1 hp with e | e
              · exact P6.out.wf p (List.mem_of_mem_take e)
              · rcases List.mem_cons.1 e with e | e
                · rw [e]; exact ⟨HWX.out, HHH.out⟩
                · exact P6.out.wf p (List.mem_of_mem_drop e)
            have h8 := P6.out.is
            obtain ⟨ao', cap', e', _, hI6, _⟩ := h8
            injection e' with e1 e2 e3
            subst e1 e3
            have HI6 := hide hI6
            have hlen6 : us.length ≤ 60 := by omega
            clear hnot hus' hI6 hisl hk
            go_upto_region 23 with fail
            go_cut [8] from 35 to 136 (fun s8 wx => Hid (OwnI wx w6.heap.size s8 (fsts us')) ∧ Hid (Below w6.heap.size w6 wx))
            case first =>
              rename_i J K' hJ hK
              refine reg23 (by rfl) ⟨_, rfl, rfl, rfl, rfl⟩ ⟨_, rfl, rfl, rfl, rfl⟩ ⟨_, rfl, rfl, rfl, rfl⟩ ⟨_, rfl, rfl, rfl, rfl⟩ ⟨_, rfl, rfl, rfl, rfl⟩ ⟨_, rfl, rfl, rfl, rfl⟩ ⟨_, rfl, rfl, rfl, rfl⟩ ⟨_, rfl, rfl, rfl, rfl⟩ ⟨_, rfl, rfl, rfl, rfl⟩ ⟨_, rfl, rfl, rfl, rfl⟩ ⟨_, rfl, rfl, rfl, rfl⟩ ⟨_, rfl, rfl, rfl, rfl⟩ ⟨_, rfl, rfl, rfl, rfl⟩ (by kernel_rfl) (by kernel_rfl) rfl (by kernel_rfl) (by kernel_rfl) (by kernel_rfl) (by kernel_rfl) (by kernel_rfl) (by kernel_rfl) (by kernel_rfl) (by kernel_rfl) (by kernel_rfl) (by kernel_rfl) (by kernel_rfl) (by kernel_rfl) (by kernel_rfl) (by kernel_rfl) (by kernel_rfl) (by kernel_rfl) (by kernel_rfl) (by kernel_rfl) (by kernel_rfl) (by kernel_rfl) (by kernel_rfl) (by kernel_rfl) (by kernel_rfl) (by kernel_rfl) rfl rfl rfl HI6.out VX6.out HWX.out hkl HCAP.out HNC.out (by omega) (fun _ _ _ _ _ h => h) ?_
              intro T' v8 w7 hx ho hb
              have HO7 : Hid (OwnI w7 w6.heap.size (T'.getD 8 undef) (fsts us')) := by rw [HFI.out, ext_at hx]; exact hide ho
              have HB7 := hide hb
              exact hK _ _ (Met.intro (hJ _ _ ⟨T'.getD 8 undef, T'.getD 35 undef, T'.getD 36 undef, T'.getD 37 undef, T'.getD 38 undef, T'.getD 39 undef, T'.getD 40 undef, T'.getD 41 undef, T'.getD 42 undef, T'.getD 43 undef, T'.getD 44 undef, T'.getD 45 undef, T'.getD 46 undef, T'.getD 47 undef, T'.getD 48 undef, T'.getD 49 undef, T'.getD 50 undef, T'.getD 51 undef, T'.getD 52 undef, T'.getD 53 undef, T'.getD 54 undef, T'.getD 55 undef, T'.getD 56 undef, T'.getD 57 undef, T'.getD 58 undef, T'.getD 59 undef, T'.getD 60 undef, T'.getD 61 undef, T'.getD 62 undef, T'.getD 63 undef, T'.getD 64 undef, T'.getD 65 undef, T'.getD 66 undef, T'.getD 67 undef, T'.getD 68 undef, T'.getD 69 undef, T'.getD 70 undef, T'.getD 71 undef, T'.getD 72 undef, T'.getD 73 undef, T'.getD 74 undef, T'.getD 75 undef, T'.getD 76 undef, T'.getD 77 undef, T'.getD 78 undef, T'.getD 79 undef, T'.getD 80 undef, T'.getD 81 undef, T'.getD 82 undef, T'.getD 83 undef, T'.getD 84 undef, T'.getD 85 undef, T'.getD 86 undef, T'.getD 87 undef, T'.getD 88 undef, T'.getD 89 undef, T'.getD 90 undef, T'.getD 91 undef, T'.getD 92 undef, T'.getD 93 undef, T'.getD 94 undef, T'.getD 95 undef, T'.getD 96 undef, T'.getD 97 undef, T'.getD 98 undef, T'.getD 99 undef, T'.getD 100 undef, T'.getD 101 undef, T'.getD 102 undef, T'.getD 103 undef, T'.getD 104 undef, T'.getD 105 undef, T'.getD 106 undef, T'.getD 107 undef, T'.getD 108 undef, T'.getD 109 undef, T'.getD 110 undef, T'.getD 111 undef, T'.getD 112 undef, T'.getD 113 undef, T'.getD 114 undef, T'.getD 115 undef, T'.getD 116 undef, T'.getD 117 undef, T'.getD 118 undef, T'.getD 119 undef, T'.getD 120 undef, T'.getD 121 undef, T'.getD 122 undef, T'.getD 123 undef, T'.getD 124 undef, T'.getD 125 undef, T'.getD 126 undef, T'.getD 127 undef, T'.getD 128 undef, T'.getD 129 undef, T'.getD 130 undef, T'.getD 131 undef, T'.getD 132 undef, T'.getD 133 undef, T'.getD 134 undef, T'.getD 135 undef, T'.getD 136 undef, ⟨HO7, HB7⟩, congrArg (fun T => Act.mk T []) ((lit_of hx (by decide) rfl).trans (by kernel_rfl))⟩))
            case rest =>
              obtain ⟨HO7, HB7⟩ := hcut
              obtain ⟨w7, rfl⟩ : ∃ w7, w7 = wc := ⟨_, rfl⟩
              obtain ⟨a9, cap9, e9, hc9, hn9, hf9⟩ := P6.out.form9
              subst e9
              have HZF := hide (show ZrF w6 a9 us.length cap9 (snds us) from ⟨by simp [snds], hn9, hf9⟩)
              have HC9 := hide hc9
              have HN9 := hide hn9
              clear hc9 hn9 hf9
              go_upto_region 24 with fail
              refine as_then (fun K2 hK2 => ?_)
              go_cut [9] from 35 to 136 (fun s9 wx => Hid (OwnZ wx w7.heap.size s9 (snds us')) ∧ Hid (Below w7.heap.size w7 wx))
              case first =>
                rename_i J K' hJ hK
                refine reg24 (by rfl) ⟨_, rfl, rfl, rfl, rfl⟩ ⟨_, rfl, rfl, rfl, rfl⟩ ⟨_, rfl, rfl, rfl, rfl⟩ ⟨_, rfl, rfl, rfl, rfl⟩ ⟨_, rfl, rfl, rfl, rfl⟩ ⟨_, rfl, rfl, rfl, rfl⟩ ⟨_, rfl, rfl, rfl, rfl⟩ ⟨_, rfl, rfl, rfl, rfl⟩ ⟨_, rfl, rfl, rfl, rfl⟩ ⟨_, rfl, rfl, rfl, rfl⟩ ⟨_, rfl, rfl, rfl, rfl⟩ ⟨_, rfl, rfl, rfl, rfl⟩ ⟨_, rfl, rfl, rfl, rfl⟩ (by kernel_rfl) (by kernel_rfl) rfl (by kernel_rfl) (by kernel_rfl) (by kernel_rfl) (by kernel_rfl) (by kernel_rfl) (by kernel_rfl) (by kernel_rfl) (by kernel_rfl) (by kernel_rfl) (by kernel_rfl) (by kernel_rfl) (by kernel_rfl) (by kernel_rfl) (by kernel_rfl) (by kernel_rfl) (by kernel_rfl) (by kernel_rfl) (by kernel_rfl) (by kernel_rfl) (by kernel_rfl) (by kernel_rfl) (by kernel_rfl) (by kernel_rfl) (by kernel_rfl) rfl rfl rfl (HZF.out.below HB7.out) hkl HC9.out HN9.out (by omega) (fun _ _ _ _ _ h => h) ?_
                intro T' v9 w8 hx ho hb
                have HO8 : Hid (OwnZ w8 w7.heap.size (T'.getD 9 undef) (snds us')) := by rw [HSI.out, ext_at hx, ← EZ.out]; exact hide ho
                have HB8 := hide hb
                exact hK _ _ (Met.intro (hJ _ _ ⟨T'.getD 9 undef, T'.getD 35 undef, T'.getD 36 undef, T'.getD 37 undef, T'.getD 38 undef, T'.getD 39 undef, T'.getD 40 undef, T'.getD 41 undef, T'.getD 42 undef, T'.getD 43 undef, T'.getD 44 undef, T'.getD 45 undef, T'.getD 46 undef, T'.getD 47 undef, T'.getD 48 undef, T'.getD 49 undef, T'.getD 50 undef, T'.getD 51 undef, T'.getD 52 undef, T'.getD 53 undef, T'.getD 54 undef, T'.getD 55 undef, T'.getD 56 undef, T'.getD 57 undef, T'.getD 58 undef, T'.getD 59 undef, T'.getD 60 undef, T'.getD 61 undef, T'.getD 62 undef, T'.getD 63 undef, T'.getD 64 undef, T'.getD 65 undef, T'.getD 66 undef, T'.getD 67 undef, T'.getD 68 undef, T'.getD 69 undef, T'.getD 70 undef, T'.getD 71 undef, T'.getD 72 undef, T'.getD 73 undef, T'.getD 74 undef, T'.getD 75 undef, T'.getD 76 undef, T'.getD 77 undef, T'.getD 78 undef, T'.getD 79 undef, T'.getD 80 undef, T'.getD 81 undef, T'.getD 82 undef, T'.getD 83 undef, T'.getD 84 undef, T'.getD 85 undef, T'.getD 86 undef, T'.getD 87 undef, T'.getD 88 undef, T'.getD 89 undef, T'.getD 90 undef, T'.getD 91 undef, T'.getD 92 undef, T'.getD 93 undef, T'.getD 94 undef, T'.getD 95 undef, T'.getD 96 undef, T'.getD 97 undef, T'.getD 98 undef, T'.getD 99 undef, T'.getD 100 undef, T'.getD 101 undef, T'.getD 102 undef, T'.getD 103 undef, T'.getD 104 undef, T'.getD 105 undef, T'.getD 106 undef, T'.getD 107 undef, T'.getD 108 undef, T'.getD 109 undef, T'.getD 110 undef, T'.getD 111 undef, T'.getD 112 undef, T'.getD 113 undef, T'.getD 114 undef, T'.getD 115 undef, T'.getD 116 undef, T'.getD 117 undef, T'.getD 118 undef, T'.getD 119 undef, T'.getD 120 undef, T'.getD 121 undef, T'.getD 122 undef, T'.getD 123 undef, T'.getD 124 undef, T'.getD 125 undef, T'.getD 126 undef, T'.getD 127 undef, T'.getD 128 undef, T'.getD 129 undef, T'.getD 130 undef, T'.getD 131 undef, T'.getD 132 undef, T'.getD 133 undef, T'.getD 134 undef, T'.getD 135 undef, T'.getD 136 undef, ⟨HO8, HB8⟩, congrArg (fun T => Act.mk T []) ((lit_of hx (by decide) rfl).trans (by kernel_rfl))⟩))
              case rest =>
                obtain ⟨HO8, HB8⟩ := hcut
                obtain ⟨w8, rfl⟩ : ∃ w8, w8 = wc := ⟨_, rfl⟩
                have P8 := hide (pl_rows P6.out HB7.out HO7.out HB8.out HO8.out HUW.out)
                have hul' : us'.length ≤ i + 1 := by rw [HUL.out]; omega
                refine hK2 _ _ ?_
                go_wp2_with fail
                go_roundw
                case rel => first | exact ⟨i + 1, us', by go_num, P8, hul', by omega, by omega, by omega⟩ | ((repeat apply Exists.intro); exact ⟨⟨i + 1, us', by go_num, P8, hul', by omega, by omega, by omega⟩, rfl⟩)
                case measure => simp [intOf]; omega
      · by_cases g0 : i < n0
        · by_cases g1 : i < n1
          · have g60 : ¬ i < 60 := by omega
            go_wp2
            go_meet
            exact ⟨us, hpl, hide (by omega)⟩
          · go_wp2
            go_meet
            exact ⟨us, hpl, hide (by omega)⟩
        · go_wp2
          go_meet
          exact ⟨us, hpl, hide (by omega)⟩
  case rest =>
    obtain ⟨us, hpl, hul⟩ := hcut
    go_step
    exact tail_any a2 n2 c2 l2 w L2 H2 m2 L us _ _ _ hpl hul _ _ _ _ _ _ _ _ _ _ _ _ _ _ _ _ _ _ _ _ _ _ _ _ _ _ _ _ _ _ _ _ _ _ _ _ _ _ _ _ _ _ _ _ _ _ _ _ _ _ _ _ _ _ _ _ _ _ _ _ _ _ _ _ _ _ _ _ _ _ _ _ _ _ _ _ _ _ _ _ _ _ _ _ _ _ _ _ _ _ _ _ _ _ _ _ _ _ _ _ _ _ _ _ _ _ _ _ _ _ _ _ _ _ _ _ _ _ _ _ _ _ _ _ _ _ _ _ _ _ _ _ _ _ _ _ _ _ _ _ _ _ _ _ _ _ _ _ _ _ _ _ _ _ _ _ _ _ _ _ _ _ _ _ _ _ _ _ _ _ _ _ _ _ _ _ _ _ _ _ _ _ _ _ _ _ _ _ _ _ _ _ _ _ _ _ _ _ _ _ _ _ _ _ _ _ _ _ _ _ _ _ _ _ _ _ _ _ _ _ _ _ _ _ _ _ _ _ _ _ _ _ _ _ _ _ _ _ _ _ _ _ _ _ _ _ _ _ _ _ _ _ _ _ _ _ _ _ _ _ _ _ _ _ _ _

end Go.Proofs.Ytakpapgjdpnedaa.Clep
