/- SkipAnyway: in whatever order items come the list is the same, walked. No conditions. -/
import Derived.Test.YtakpapgjdpnedaaTBest
import Derived.Test.YtakpapgjdpnedaaSEqual
import Derived.Test.YtakpapgjdpnedaaSLaw
namespace Go.Proofs.Ytakpapgjdpnedaa.Clep
open Go.RowKit
set_option linter.unusedVariables false

theorem and8 (a : Int) : 0 ≤ bits .and .i64 a 255 ∧ bits .and .i64 a 255 ≤ 255 := by
  have e : bits .and .i64 a 255 = IntKind.i64.wrap ((BitVec.ofInt 64 a &&& BitVec.ofInt 64 255).toNat : Int) := rfl
  have hle : (BitVec.ofInt 64 a &&& BitVec.ofInt 64 255).toNat ≤ 255 := by
    rw [BitVec.toNat_and]; exact Nat.le_trans Nat.and_le_right (by decide)
  rw [e]
  generalize (BitVec.ofInt 64 a &&& BitVec.ofInt 64 255).toNat = k at *
  simp [IntKind.wrap, IntKind.bits, IntKind.signed]
  omega
/-- Two lists side by side, each the best of what was put. -/
structure Tw2 (w wr : World) (La Lb : Nat) (l : List It) (n c i : Nat) : Prop where
  ex : ∃ Ba Bb wa wb, Held wr La Ba wa ∧ Held wr Lb Bb wb ∧ (∀ b, Ba b → ¬ Bb b) ∧ (∀ b, Ba b → w.heap.size ≤ b) ∧ (∀ b, Bb b → w.heap.size ≤ b) ∧
    Best (fun z => z ∈ l.take i ∧ z.ok = true) (wa.map Prod.fst) ∧ Best (fun z => (∃ j, j < i ∧ l[(j + c) % n]? = some z) ∧ z.ok = true) (wb.map Prod.fst) ∧ wa.length ≤ i ∧ wb.length ≤ i
  bel : Below w.heap.size w wr

theorem tw2_step {w wr w2 w3 : World} {La Lb : Nat} {l : List It} {n c i : Nat} {Ba Bb : Nat → Prop} {wa wb : List (It × Nat)} {x y : It} {n1 n2 : Int} (hbel : Below w.heap.size w wr) (q2 : Held wr Lb Bb wb) (q1 : Held wr La Ba wa) (q3 : ∀ b, Ba b → ¬ Bb b) (q4 : ∀ b, Ba b → w.heap.size ≤ b) (q5 : ∀ b, Bb b → w.heap.size ≤ b)
    (q6 : Best (fun z => z ∈ l.take i ∧ z.ok = true) (wa.map Prod.fst)) (q7 : Best (fun z => (∃ j, j < i ∧ l[(j + c) % n]? = some z) ∧ z.ok = true) (wb.map Prod.fst)) (q8 : wa.length ≤ i) (q9 : wb.length ≤ i)
    (hx : l[i]? = some x) (hy : l[(i + c) % n]? = some y) (h1 : 1 ≤ n1 ∧ n1 ≤ 6) (h2 : 1 ≤ n2 ∧ n2 ≤ 6)
    (a1 : Held w2 La (fun b => Ba b ∨ (wr.heap.size ≤ b ∧ b < w2.heap.size)) (putA x n1 wa).2) (a2 : Ch Ba wr w2) (b1 : Held w3 Lb (fun b => Bb b ∨ (w2.heap.size ≤ b ∧ b < w3.heap.size)) (putA y n2 wb).2) (b2 : Ch Bb w2 w3) : Tw2 w w3 La Lb l n c (i + 1) := by
  have hs := hbel.size
  have hlb := q2.lt
  have hla := a1.lt
  have hbd : ∀ b, (Ba b ∨ (wr.heap.size ≤ b ∧ b < w2.heap.size)) → ¬ Bb b := fun b hb hb' => by
    rcases hb with e | e
    · exact q3 b e hb'
    · have := hlb b hb'; omega
  refine ⟨⟨_, _, _, _, a1.ch b2 hbd, b1, fun b hb hb' => ?_, fun b hb => ?_, fun b hb => ?_, best_congr (best_putA q6 x n1 h1) fun z => ?_, best_congr (best_putA q7 y n2 h2) fun z => ?_, ?_, ?_⟩, ?_⟩
  · rcases hb' with e | e
    · exact hbd b hb e
    · have := hla b hb; omega
  · rcases hb with e | e
    · exact q4 b e
    · omega
  · rcases hb with e | e
    · exact q5 b e
    · have := a2.size; omega
  · rw [List.take_add_one, hx]
    simp only [Option.toList, List.mem_append, List.mem_singleton]
    constructor
    · rintro (⟨e1, e2⟩ | ⟨e1, e2⟩)
      · exact ⟨.inl e1, e2⟩
      · exact ⟨.inr e1, e2⟩
    · rintro ⟨e1 | e1, e2⟩
      · exact .inl ⟨e1, e2⟩
      · exact .inr ⟨e1, e2⟩
  · constructor
    · rintro (⟨⟨j, e1, e3⟩, e2⟩ | ⟨e1, e2⟩)
      · exact ⟨⟨j, by omega, e3⟩, e2⟩
      · exact ⟨⟨i, by omega, by rw [hy, e1]⟩, e2⟩
    · rintro ⟨⟨j, e1, e3⟩, e2⟩
      by_cases hji : j < i
      · exact .inl ⟨⟨j, hji, e3⟩, e2⟩
      · obtain rfl : j = i := by omega
        rw [hy] at e3
        injection e3 with e3
        exact .inr ⟨e3.symm, e2⟩
  · have := putA_len x n1 wa; omega
  · have := putA_len y n2 wb; omega
  · exact Below.ch (Below.ch hbel a2 hs q4) b2 (Nat.le_trans hs a2.size) q5

set_option maxRecDepth 100000 in
set_option maxHeartbeats 4000000 in
theorem anyway_any (ao : Option Addr) (len cap : Nat) (l : List It) (turn : Int) (w : World) (h : Is w ao len cap l) (hm : len ≤ 9223372036854775807) :
    Calls Try.prog 4 #[.slice ao len cap, .int .i64 turn] w fun e w' => e = .returned (.bool true) ∧ Below w.heap.size w w' := by
  have hl := hide h.1
  have H0 := hide (fun W (hW : Below w.heap.size w W) => h.below hW (Nat.le_refl _))
  have HWF := hide h.2.2.1
  obtain ⟨n, hn⟩ : ∃ n : Nat, ((60 : Int) < len → (60 : Int) = n) ∧ (¬ (60 : Int) < len → (len : Int) = n) ∧ n ≤ len ∧ n ≤ 60 := ⟨min len 60, by omega⟩
  obtain ⟨hn1, hn2, hnl, hn60⟩ := hn
  have HN1 := hide hn1
  have HN2 := hide hn2
  clear hn1 hn2
  clear h
  go_enter Try.func4, Try.ntmps4
  go_wp2_with fail
  refine (new_h w).mono ?_
  rintro e w1 ⟨La, rfl, ha1, b1⟩
  have HA1 := hide ha1
  have B1 := hide b1
  clear ha1 b1
  go_wp2_with fail
  refine (new_h w1).mono ?_
  rintro e w2 ⟨Lb, rfl, hb2, b2⟩
  have T2 : Hid (Tw2 w w2 La Lb l n (bits .and .i64 turn 255).toNat 0) := hide ⟨⟨_, _, [], [], HA1.out.keep b2, hb2, fun b h1 h2 => by omega, fun b h1 => h1.1, fun b h1 => by have := B1.out.size; omega,
    ⟨List.Pairwise.nil, by simp, fun x hx => by simp at hx⟩, ⟨List.Pairwise.nil, by simp, fun x hx => by obtain ⟨⟨j, hj, _⟩, _⟩ := hx; omega⟩, by simp, by simp⟩, bmore B1.out b2⟩
  clear hb2 b2 HA1 B1
  have hC := and8 turn
  obtain ⟨C, eC⟩ : ∃ C : Nat, bits .and .i64 turn 255 = C := ⟨(bits .and .i64 turn 255).toNat, by omega⟩
  have hC255 : C ≤ 255 := by omega
  have EC := hide eC
  rw [eC] at T2
  rw [show ((C : Int).toNat) = C from by omega] at T2
  clear hC eC
  go_wp2_with fail
  all_goals
    first | rw [HN1.out (by omega)] | rw [HN2.out (by omega)]
    go_loopw [8] (fun s8 wr => ∃ i : Nat, s8 = .int .i64 i ∧ i ≤ n ∧ Hid (Tw2 w wr La Lb l n C i)) (fun s8 _ => n - (intOf s8).toNat)
    case atStart => exact ⟨0, rfl, by omega, T2⟩
    case round =>
      obtain ⟨i, rfl, hi, ht⟩ := hrel
      by_cases hlt : i < n
      · obtain ⟨Ba, Bb, wa, wb, q1, q2, q3, q4, q5, q6, q7, q8, q9⟩ := ht.out.ex
        obtain ⟨b0, off, ea, hcc⟩ := (H0.out _ ht.out.bel).2.2.2 (by omega)
        subst ea
        obtain ⟨y, hy⟩ : ∃ y, l[i]? = some y := ⟨_, List.getElem?_eq_getElem (by rw [hl.out]; omega)⟩
        have hv := hcc i y hy
        obtain ⟨S, K, T, V, X⟩ := y
        unfold Vt Vi at hv
        simp only at hv
        obtain ⟨v0, v1, v2, v3, v4⟩ := hv
        clear hcc
        have hwx := HWF.out _ (List.mem_of_getElem? hy)
        have C1 := hide (put_h wr La Ba wa S K T V X ((i : Int) % 6 + 1) q1 hwx (by omega))
        obtain ⟨q, hq⟩ : ∃ q : Nat, (i + C) % n = q := ⟨_, rfl⟩
        have hqn : q < n := by rw [← hq]; exact Nat.mod_lt _ (by omega)
        have eI : ((i : Int) + (C : Int)) % (n : Int) = (q : Int) := by rw [← hq]; simp
        obtain ⟨z, hz⟩ : ∃ z, l[q]? = some z := ⟨_, List.getElem?_eq_getElem (by rw [hl.out]; omega)⟩
        have hwz := HWF.out _ (List.mem_of_getElem? hz)
        have HQ := hide (fun W (hW : Below w.heap.size w W) => by
          obtain ⟨b1, off1, e1, hc1⟩ := (H0.out _ hW).2.2.2 (by omega)
          cases e1
          exact hc1 q z hz)
        obtain ⟨S1, K1, T1, V1, X1⟩ := z
        have HY := hide hy
        have HZ := hide hz
        have HQQ := hide hq
        have HQS := hide (And.intro q1 (And.intro q2 (And.intro q3 (And.intro q4 (And.intro q5 (And.intro q6 (And.intro q7 (And.intro q8 q9))))))))
        have HWZ := hide hwz
        have BW := hide ht.out.bel
        have eB : bits .and .i64 turn 255 = (C : Int) := EC.out
        clear q1 q2 q3 q4 q5 q6 q7 q8 q9 hy hz hq hwx hwz ht
        go_wp2_with fail
        refine C1.out.mono ?_
        rintro e w2 ⟨rfl, ha, hc⟩
        have HA := hide ha
        have HC := hide hc
        have B2 := hide (Below.ch BW.out hc BW.out.size HQS.out.2.2.2.1)
        have C2 := hide (put_h w2 Lb Bb wb S1 K1 T1 V1 X1 (6 - (i : Int) % 6) (HQS.out.2.1.ch hc (fun b hb hb' => HQS.out.2.2.1 b hb' hb)) HWZ.out (by have := HQS.out.2.2.2.2.2.2.2.2; omega))
        have hv := HQ.out _ B2.out
        unfold Vt Vi at hv
        simp only at hv
        obtain ⟨u0, u1, u2, u3, u4⟩ := hv
        clear ha hc v0 v1 v2 v3 v4 C1
        generalize (putA ⟨S, K, T, V, X⟩ ((i : Int) % 6 + 1) wa).1.1 = r1
        generalize (putA ⟨S, K, T, V, X⟩ ((i : Int) % 6 + 1) wa).1.2 = r2
        go_wp2_with fail
        refine C2.out.mono ?_
        rintro e w3 ⟨rfl, hb, hc⟩
        have TN := hide (tw2_step BW.out HQS.out.2.1 HQS.out.1 HQS.out.2.2.1 HQS.out.2.2.2.1 HQS.out.2.2.2.2.1 HQS.out.2.2.2.2.2.1 HQS.out.2.2.2.2.2.2.1 HQS.out.2.2.2.2.2.2.2.1 HQS.out.2.2.2.2.2.2.2.2 HY.out (by rw [HQQ.out]; exact HZ.out) (by omega) (by omega) HA.out HC.out hb hc)
        generalize (putA ⟨S1, K1, T1, V1, X1⟩ (6 - (i : Int) % 6) wb).1.1 = r3
        generalize (putA ⟨S1, K1, T1, V1, X1⟩ (6 - (i : Int) % 6) wb).1.2 = r4
        clear hb hc u0 u1 u2 u3 u4 C2
        go_wp2_with fail
        go_roundw
        case rel => first | exact ⟨i + 1, by go_num, by omega, TN⟩ | ((repeat apply Exists.intro); exact ⟨⟨i + 1, by go_num, by omega, TN⟩, rfl⟩)
        case measure => simp [intOf]; omega
      · obtain rfl : i = n := by omega
        obtain ⟨Ba, Bb, wa, wb, q1, q2, q3, q4, q5, q6, q7, q8, q9⟩ := ht.out.ex
        have hbb : Best (fun z => z ∈ l.take i ∧ z.ok = true) (wb.map Prod.fst) := best_congr q7 fun z => by rw [turn_mem l i C (by rw [hl.out]; exact hnl)]
        have heq := best_unique q6 hbb
        have HRI := hide q6.1
        have CA := hide (all_h wr La Ba wa q1 (by omega))
        obtain ⟨m, hm'⟩ : ∃ m, wa.map Prod.fst = m := ⟨_, rfl⟩
        have hwl : wa.length = m.length := by rw [← hm']; simp
        rw [hm'] at CA HRI heq
        have HWLN := hide hwl
        have HEQ := hide heq
        have HHA := hide q1
        have HHB := hide q2
        have hml : m.length ≤ 60 := by omega
        have hwb : wb.length ≤ 60 := by omega
        have BW := hide ht.out.bel
        have e0 : ¬ ((i : Int) < (i : Int)) := by omega
        clear q1 q2 q3 q4 q5 q6 q7 q8 q9 hbb heq hm' hwl ht
        go_wp2_with fail
        refine CA.out.mono ?_
        rintro e w2 ⟨xa, xc, rfl, hx, hxc, b2⟩
        obtain ⟨M, hM⟩ : ∃ M, m.length = M := ⟨_, rfl⟩
        rw [hM] at hx hml ⊢
        have HX := hide hx
        have HXC := hide hxc
        have HM := hide hM
        have B2 := hide (bmore BW.out b2)
        have HA2 := hide (HHA.out.keep b2)
        have HB2 := hide (HHB.out.keep b2)
        have HXB := hide (fun W (hW : Below w2.heap.size w2 W) => HX.out.below hW (Nat.le_refl _))
        clear hx hxc b2 CA hM e0 HHA HHB
        go_wp2_with fail
        go_loopw [10] (fun s10 wq => ∃ k : Nat, s10 = .int .i64 (k + 1 : Nat) ∧ (k = 0 ∨ k + 1 ≤ M) ∧ Hid (Below w2.heap.size w2 wq)) (fun s10 _ => M + 2 - (intOf s10).toNat)
        case atStart => exact ⟨0, rfl, .inl rfl, hide (Below.refl _ _)⟩
        case round =>
          obtain ⟨k, rfl, hk, hbel⟩ := hrel
          by_cases hkM : k + 1 < M
          · obtain ⟨b0, off, ea, hcc⟩ := (HXB.out _ hbel.out).2.2.2 (by omega)
            subst ea
            obtain ⟨y, hy⟩ : ∃ y, m[k]? = some y := ⟨_, List.getElem?_eq_getElem (by rw [HM.out]; omega)⟩
            obtain ⟨z, hz⟩ : ∃ z, m[k + 1]? = some z := ⟨_, List.getElem?_eq_getElem (by rw [HM.out]; omega)⟩
            have hless : y.less z = true := by
              have := List.pairwise_iff_getElem.1 HRI.out k (k + 1) (by rw [HM.out]; omega) (by rw [HM.out]; omega) (by omega)
              rw [List.getElem?_eq_getElem (by rw [HM.out]; omega)] at hy hz
              injection hy with hy
              injection hz with hz
              rw [← hy, ← hz]; exact this
            have HV := hide (hcc k y hy)
            have HU := hide (hcc (k + 1) z hz)
            obtain ⟨S0, K0, T0, V0, X0⟩ := y
            obtain ⟨S, K, T, V, X⟩ := z
            unfold Vt at HV HU
            simp only at HV HU
            have d00 : ∀ p : Kp wr, p.W.cell? ⟨b0, off + k * 5, none⟩ = some (.int .i64 S0) := fun p => (HV.out.keep p.h).1
            have d01 : ∀ p : Kp wr, p.W.cell? ⟨b0, off + k * 5 + 1, none⟩ = some (.int .i64 K0) := fun p => (HV.out.keep p.h).2.1
            have d02 : ∀ p : Kp wr, p.W.cell? ⟨b0, off + k * 5 + 2, none⟩ = some (.int .u64 T0) := fun p => (HV.out.keep p.h).2.2.1
            have d03 : ∀ p : Kp wr, p.W.cell? ⟨b0, off + k * 5 + 3, none⟩ = some (.int .u64 V0) := fun p => (HV.out.keep p.h).2.2.2.1
            have d04 : ∀ p : Kp wr, p.W.cell? ⟨b0, off + k * 5 + 4, none⟩ = some (.int .i64 X0) := fun p => (HV.out.keep p.h).2.2.2.2
            have d10 : ∀ p : Kp wr, p.W.cell? ⟨b0, off + (k + 1) * 5, none⟩ = some (.int .i64 S) := fun p => (HU.out.keep p.h).1
            have d11 : ∀ p : Kp wr, p.W.cell? ⟨b0, off + (k + 1) * 5 + 1, none⟩ = some (.int .i64 K) := fun p => (HU.out.keep p.h).2.1
            have d12 : ∀ p : Kp wr, p.W.cell? ⟨b0, off + (k + 1) * 5 + 2, none⟩ = some (.int .u64 T) := fun p => (HU.out.keep p.h).2.2.1
            have d13 : ∀ p : Kp wr, p.W.cell? ⟨b0, off + (k + 1) * 5 + 3, none⟩ = some (.int .u64 V) := fun p => (HU.out.keep p.h).2.2.2.1
            have d14 : ∀ p : Kp wr, p.W.cell? ⟨b0, off + (k + 1) * 5 + 4, none⟩ = some (.int .i64 X) := fun p => (HU.out.keep p.h).2.2.2.2
            have hlt0 : lessI S0 K0 T0 S K T = true := hless
            have c0 : Hid (∀ p : Kp wr, Calls Try.prog 18 #[.agg #[.int .i64 S0, .int .i64 K0, .int .u64 T0, .int .u64 V0, .int .i64 X0], .agg #[.int .i64 S, .int .i64 K, .int .u64 T, .int .u64 V, .int .i64 X]] p.W fun e w'' => e = .returned (.bool true) ∧ ∃ q : Kp wr, w'' = q.W) := hide fun p => kp_call (by rw [← hlt0]; exact refless_any S0 K0 T0 V0 X0 S K T V X _)
            have hne : Nonempty (Kp wr) := ⟨⟨_, Below.refl _ _⟩⟩
            have hs1 : ((k + 1 : Nat) : Int) - 1 = (k : Int) := by omega
            have hs2 : IntKind.i64.wrap (k : Int) = (k : Int) := by simp [IntKind.wrap, IntKind.bits, IntKind.signed]; omega
            have hs3 : (k : Int) < (M : Int) := by omega
            have hs4 : ((k + 1 : Nat) : Int) < (M : Int) := by omega
            clear hcc hy hz hless hlt0 HV HU
            go_wp2_with fail
            refine wp_region_kept (by kernel_rfl) (by kernel_rfl) ?_
            repeat (first
              | go_big_quiet_step (first | (go_at_call 18; exact c0.out _))
              | fail)
            refine wpQuiet_nil ?_
            intro w4 hw'
            have HB4 : Hid (Below w2.heap.size w2 w4) := by
              obtain ⟨⟨w3', hb3⟩, hw''⟩ := hw'
              rw [hw'']; exact hide (bmore hbel.out hb3)
            clear hw' hne c0 d00 d01 d02 d03 d04 d10 d11 d12 d13 d14
            go_wp2_with fail
            go_roundw
            case rel => first | exact ⟨k + 1, by go_num, by omega, HB4⟩ | ((repeat apply Exists.intro); exact ⟨⟨k + 1, by go_num, by omega, HB4⟩, rfl⟩)
            case measure => simp [intOf]; omega
          · have CB := hide (all_h wr Lb Bb wb (HB2.out.keep hbel.out) (by omega))
            rw [← HEQ.out] at CB
            have hs4 : ¬ (((k + 1 : Nat) : Int) < (M : Int)) := by omega
            go_wp2_with fail
            refine CB.out.mono ?_
            rintro e w5 ⟨ya, yc, rfl, hy, hyc, b5⟩
            rw [HM.out] at hy ⊢
            have hb25 := bmore hbel.out b5
            have CE := hide (refequal_any xa ya M xc M yc m m w5 (HXB.out _ hb25) hy (by omega) (by omega))
            have B5 := hide (bmore B2.out hb25)
            have HA5 := hide (HA2.out.keep hb25)
            clear hy hyc b5 hb25 CB
            go_wp2_with fail
            refine CE.out.mono ?_
            rintro e w6 ⟨o, rfl, ho, b6⟩
            obtain rfl : o = true := by simpa using ho
            have B6 := hide (bmore B5.out b6)
            have CL := hide (len_h w6 La Ba wa (HA5.out.keep b6))
            rw [HWLN.out, HM.out] at CL
            clear ho b6 CE
            go_wp2_with fail
            refine CL.out.mono ?_
            rintro e w7 ⟨rfl, rfl⟩
            go_wp2_with fail
            refine (awake_any _).mono ?_
            rintro e w8 ⟨rfl, b8⟩
            have B8 := hide (bmore B6.out b8)
            clear b8
            go_wp2
            go_ret
            exact ⟨rfl, B8.out⟩

end Go.Proofs.Ytakpapgjdpnedaa.Clep
