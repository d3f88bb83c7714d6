/- What the statement BlockCuts does when called: true. Conditions: none but what a call brings. -/
import Derived.Test.YtcgfopkoalnjkaaZx
import Derived.Test.YtcgfopkoalnjkaaXb
import Derived.Test.YtcgfopkoalnjkaaZo
namespace Go.Proofs.Ytcgfopkoalnjkaa.Clep
open Go.RowKit
set_option linter.unusedVariables false

theorem cuts_long (a0 : Option Addr) (len0 cap0 : Nat) (most : Int) (x : It) (w : World) (m0 : len0 ≤ 9223372036854775807) (h : 300 < len0) :
    Calls Try.prog 4 #[.slice a0 len0 cap0, .int .i64 most, .agg #[.int .i64 x.S, .int .i64 x.K, .int .u64 x.T, .int .u64 x.V, .int .i64 x.X]] w fun e w' => e = .returned (.bool true) ∧ Below w.heap.size w w' := by
  have A1 := hide ((Below.refl _ w).alloc (Nat.le_refl _) (Obj.cells #[.int .i64 x.S, .int .i64 x.K, .int .u64 x.T, .int .u64 x.V, .int .i64 x.X] 41))
  go_enter Try.func4, Try.ntmps4
  go_wp2_with (first | (go_at_call 8; refine (awake_any _).mono ?_; rintro e w1 ⟨rfl, hb⟩))
  go_ret
  exact ⟨rfl, bmore A1.out hb⟩
theorem fd_step {q : List It} (hr : Rise q) (x y : It) (k : Nat) (hy : q[k]? = some y) : fd (q.take (k + 1)) x = if y.same x then some y else fd (q.take k) x := by
  have e : q.take (k + 1) = q.take k ++ [y] := by rw [List.take_add_one, hy]; rfl
  cases hs : y.same x with
  | false =>
    rw [e]; unfold fd
    rw [List.find?_append]
    simp [hs]
  | true =>
    have hn : fd (q.take k) x = none := fd_none_of fun z hz => by
      cases h : z.same x with
      | false => rfl
      | true =>
        have hl : z.less y = true := by
          have hr2 : Rise (q.take (k + 1)) := List.Pairwise.sublist (List.take_sublist _ _) hr
          rw [e] at hr2
          exact (List.pairwise_append.1 hr2).2.2 z hz y (by simp)
        rw [same_iff] at h hs; rw [less_iff] at hl; omega
    rw [e]; unfold fd at hn ⊢
    rw [List.find?_append, hn]
    simp [hs]
/-- What is found so far, in block R. -/
structure Cw (w5 wr : World) (R : Nat) (o : Option It) : Prop where
  ch : Ch (fun b => b = R) w5 wr
  vx : Vx wr R (o.getD oz).S (o.getD oz).K (o.getD oz).T (o.getD oz).V (o.getD oz).X
set_option maxRecDepth 100000 in
set_option maxHeartbeats 8000000 in
theorem cuts_go (a0 : Option Addr) (len0 cap0 : Nat) (l : List It) (most : Int) (x : It) (w : World) (h0 : Is w a0 len0 cap0 l) (hc0 : cap0 ≤ 9223372036854775807) (m0 : len0 ≤ 300) :
    Calls Try.prog 4 #[.slice a0 len0 cap0, .int .i64 most, .agg #[.int .i64 x.S, .int .i64 x.K, .int .u64 x.T, .int .u64 x.V, .int .i64 x.X]] w fun e w' => e = .returned (.bool true) ∧ Below w.heap.size w w' := by
  have hll := h0.1
  have A1 := (Below.refl _ w).alloc (Nat.le_refl _) (Obj.cells #[.int .i64 x.S, .int .i64 x.K, .int .u64 x.T, .int .u64 x.V, .int .i64 x.X] 41)
  have V1 := hide (vi_new w x.S x.K x.T x.V x.X)
  obtain ⟨w1, hw1⟩ : ∃ w1, w1 = w.alloc (Obj.cells #[.int .i64 x.S, .int .i64 x.K, .int .u64 x.T, .int .u64 x.V, .int .i64 x.X] 41) := ⟨_, rfl⟩
  rw [← hw1] at A1 V1
  have B1 := hide A1
  have HI := hide (fun W (hW : Below w1.heap.size w1 W) => h0.below (bmore A1 hW) (Nat.le_refl _))
  have hC := hide (bcut_any a0 len0 cap0 l most w1 (HI.out w1 (Below.refl _ _)) (by omega) hc0)
  have hD := hide (fun W (hW : Below w1.heap.size w1 W) => rcut_any a0 len0 cap0 l most W (HI.out W hW) (by omega) hc0)
  have hO := hide (fun W (hW : Below w1.heap.size w1 W) => lone_any a0 len0 cap0 l W (HI.out W hW) (by omega) hc0)
  have HLL := hide (show l.length ≤ 3518437208880 by omega)
  have hnr : cnr (csz most) len0 ≤ len0 := cnr_n (csz_rng most).1
  have hql : (qL l).length ≤ 300 := by have := qL_len l; omega
  have HR := hide (qL_rise l)
  clear h0 A1 hll
  generalize cnr (csz most) len0 = nr at *
  go_enter Try.func4, Try.ntmps4
  go_wp2_with fail
  rw [← hw1]
  obtain ⟨R, hR⟩ : ∃ R, w.heap.size = R := ⟨_, rfl⟩
  have HRR := hide hR
  rw [hR] at V1 ⊢
  clear hw1 hR
  refine hC.out.mono ?_
  rintro e w2 ⟨a2, c2, rfl, hb2, z2, hr2, hz2⟩
  have HR2 := hide hr2
  have HZ2 := hide hz2
  clear hC hr2 hz2
  go_wp2_with fail
  refine (hD.out _ hb2).mono ?_
  rintro e w3 ⟨a3, c3, rfl, hb3, z3, hr3, hz3⟩
  have B3 := hide (bmore hb2 hb3)
  have HS2 := hide (fun W (hW : Below w3.heap.size w3 W) => HR2.out.below (bmore hb3 hW) (Nat.le_refl _))
  have HS3 := hide (fun W (hW : Below w3.heap.size w3 W) => hr3.below hW (Nat.le_refl _))
  have HZ3 := hide hz3
  have hq0 : ((nr : Int) != (nr : Int)) = false := by simp
  clear hD hb2 hb3 hr3 hz3 HR2
  go_wp2_with fail
  go_loopw [9] (fun i wr => ∃ k : Nat, k ≤ nr ∧ i = .int .i64 k ∧ Hid (Below w3.heap.size w3 wr)) (fun i _ => nr - (intOf i).toNat)
  case atStart => exact ⟨0, by omega, rfl, hide (Below.refl _ _)⟩
  case round =>
    obtain ⟨k, hk, rfl, hB⟩ := hrel
    by_cases hlt : k < nr
    · have g2 := HS2.out wr hB.out
      have g3 := HS3.out wr hB.out
      obtain ⟨y2, hy2⟩ : ∃ y, z2[k]? = some y := ⟨_, List.getElem?_eq_getElem (by rw [g2.1]; exact hlt)⟩
      obtain ⟨y3, hy3⟩ : ∃ y, z3[k]? = some y := ⟨_, List.getElem?_eq_getElem (by rw [g3.1]; exact hlt)⟩
      have l2 := HZ2.out k y2 hy2
      have l3 := HZ3.out k y3 hy3
      have i2 := g2.2.2.1 y2 (List.mem_of_getElem? hy2)
      have i3 := g3.2.2.1 y3 (List.mem_of_getElem? hy3)
      obtain ⟨p2, o2, e2, hc2⟩ := g2.2.2.2 (by omega)
      obtain ⟨p3, o3, e3, hc3⟩ := g3.2.2.2 (by omega)
      have u2 := hide (hc2 k y2 hy2)
      have u3 := hide (hc3 k y3 hy3)
      obtain ⟨x2, n2, d2, m2⟩ := y2
      obtain ⟨x3, n3, d3, m3⟩ := y3
      simp only at l2 l3 i2 i3 u2 u3
      subst l2 l3 e2 e3
      have en : n2 = n3 := by rw [← i2.1.1, ← i3.1.1]
      subst en
      have I2 := hide i2.1
      have I3 := hide i3.1
      have hn2 := i2.2
      have t2 : ∀ p : Kp wr, p.W.cell? ⟨p2, o2 + k, none⟩ = some (.slice x2 n2 d2) := fun p => (p.h.cell (p := ⟨p2, o2 + k, none⟩) (World.block_lt_of_cell? wr _ u2.out)).trans u2.out
      have t3 : ∀ p : Kp wr, p.W.cell? ⟨p3, o3 + k, none⟩ = some (.slice x3 n2 d3) := fun p => (p.h.cell (p := ⟨p3, o3 + k, none⟩) (World.block_lt_of_cell? wr _ u3.out)).trans u3.out
      have cE : Hid (∀ p : Kp wr, Calls Try.prog 15 #[.slice x2 n2 d2, .slice x3 n2 d3] p.W fun e w'' => e = .returned (.bool true) ∧ ∃ q : Kp wr, w'' = q.W) := hide fun p => kp_call (equal_same x2 x3 n2 d2 d3 _ _ hn2 (I2.out.below p.h (Nat.le_refl _)) (I3.out.below p.h (Nat.le_refl _)))
      have hltz : (k : Int) < (nr : Int) := by omega
      have hne : Nonempty (Kp wr) := ⟨⟨_, Below.refl _ _⟩⟩
      clear g2 g3 hy2 hy3 i2 i3 hc2 hc3
      go_wp2_with fail
      refine wp_region_kept (by kernel_rfl) (by kernel_rfl) ?_
      repeat (first
        | go_big_quiet_step (first | (go_at_call 15; exact cE.out _))
        | fail)
      refine wpQuiet_nil ?_
      intro w4 hw'
      have HB4 : Hid (Below w3.heap.size w3 w4) := by
        obtain ⟨⟨w3', hb3⟩, hw''⟩ := hw'
        rw [hw'']; exact hide (bmore hB.out hb3)
      clear hw' hne cE t2 t3
      go_wp2
      go_roundw
      case rel => exact ⟨k + 1, by omega, by go_num, HB4⟩
      case measure => simp [intOf]; omega
    · obtain rfl : k = nr := by omega
      clear HS2 HS3 HZ2 HZ3
      have B4 := hide (bmore B3.out hB.out)
      have hO4 := hide (hO.out wr B4.out)
      clear hO
      go_wp2_with fail
      refine hO4.out.mono ?_
      rintro e w4 ⟨v4, rfl, hb4, zz, ho4, hz4, hm4⟩
      have hq := hide (q_any v4 zz l wr.heap.size w4 hb4.size ho4 (fun z hz => ⟨(hz4 z hz).1.below hb4 (Nat.le_refl _), (hz4 z hz).2⟩) hm4 HLL.out)
      have HB4 := hide (bmore B4.out hb4)
      clear hO4 ho4 hz4 hm4 hb4 B4
      go_wp2_with fail
      refine hq.out.mono ?_
      rintro e w5 ⟨aq, cq, rfl, hIq, hcq, hb5, -⟩
      have B5 := hide (bmore HB4.out hb5)
      have V5 := hide (V1.out.keep B5.out)
      have HIQ := hide hIq
      generalize qL l = m at *
      have hml := hIq.1
      obtain ⟨nq, hnq⟩ : ∃ nq, m.length = nq := ⟨_, rfl⟩
      rw [hnq] at HIQ hql ⊢
      have HNQ := hide hnq
      clear hq hb5 hIq HB4 hml hnq
      have hF := hide (find_any aq nq cq m x w5 HIQ.out (by omega) HR.out)
      have gx := V5.out
      unfold Vi at gx
      simp only [Nat.zero_add] at gx
      obtain ⟨x0', x1', x2', x3', x4'⟩ := gx
      go_wp2_with fail
      refine hF.out.mono ?_
      rintro e w6 ⟨rfl, hb6⟩
      have B6 := hide (bmore B5.out hb6)
      replace V5 := hide (V5.out.keep hb6)
      replace HIQ := hide (HIQ.out.below hb6 (Nat.le_refl _))
      obtain ⟨ob, hob⟩ : ∃ ob, (fd m x).isSome = ob := ⟨_, rfl⟩
      obtain ⟨oi, hoi⟩ : ∃ oi, (fd m x).getD oz = oi := ⟨_, rfl⟩
      rw [hob, hoi]
      have HOB := hide hob
      have HOI := hide hoi
      clear hF hb6 x0' x1' x2' x3' x4' hob hoi B5
      obtain ⟨S1, K1, T1, V1', X1⟩ := oi
      rw [show (cv ⟨S1, K1, T1, V1', X1⟩).toArray = #[Value.int .i64 S1, .int .i64 K1, .int .u64 T1, .int .u64 V1', .int .i64 X1] from rfl]
      have A7 := (Below.refl _ w6).alloc (Nat.le_refl _) (Obj.cells #[Value.int .i64 S1, .int .i64 K1, .int .u64 T1, .int .u64 V1', .int .i64 X1] 41)
      have U7 := vi_new w6 S1 K1 T1 V1' X1
      obtain ⟨w7, hw7⟩ : ∃ w7, w7 = w6.alloc (Obj.cells #[Value.int .i64 S1, .int .i64 K1, .int .u64 T1, .int .u64 V1', .int .i64 X1] 41) := ⟨_, rfl⟩
      have hs7 : w7.heap.size = w6.heap.size + 1 := by rw [hw7]; simp
      rw [← hw7] at A7 U7
      have A8 := (Below.refl _ w7).alloc (Nat.le_refl _) (Obj.cells #[Value.int .i64 0, .int .i64 0, .int .u64 0, .int .u64 0, .int .i64 0] 41)
      have U8 := vx_new w7 0 0 0 0 0
      obtain ⟨w8, hw8⟩ : ∃ w8, w8 = w7.alloc (Obj.cells #[Value.int .i64 0, .int .i64 0, .int .u64 0, .int .u64 0, .int .i64 0] 41) := ⟨_, rfl⟩
      rw [← hw8] at A8 U8
      rw [hs7] at U8
      have B8 := hide (bmore (bmore B6.out A7) A8)
      have hRlt := V5.out.lt
      have V8 := hide (V5.out.keep (bmore A7 A8))
      have U9 := hide (U7.keep A8)
      have HIQ8 := hide (HIQ.out.below (bmore A7 A8) (Nat.le_refl _))
      have hqb : Hid (0 < nq → ∀ y, aq = some y → y.block < w6.heap.size) := hide fun h9 y hy => by
        obtain ⟨b9, o9, e9, hc9⟩ := HIQ.out.2.2.2 h9
        rw [e9] at hy; cases hy
        obtain ⟨y9, hy9⟩ : ∃ y, m[0]? = some y := ⟨_, List.getElem?_eq_getElem (by rw [HNQ.out]; exact h9)⟩
        exact World.block_lt_of_cell? w6 _ (hc9 0 y9 hy9).1
      have hCw : Hid (Cw w8 w8 (w6.heap.size + 1) (fd (m.take 0) x)) := hide ⟨Ch.of (Below.refl _ _), by
        rw [List.take_zero]; exact U8⟩
      have hwsz : Hid (w.heap.size ≤ w6.heap.size) := hide (Nat.le_trans B1.out.size B6.out.size)
      clear A7 A8 U7 U8 HIQ V5 hs7
      go_wp2_with fail
      rw [← hw7, ← hw8]
      clear hw7 hw8
      obtain ⟨Q, hQ⟩ : ∃ Q, w6.heap.size = Q := ⟨_, rfl⟩
      rw [hQ] at hCw U9 hqb hwsz hRlt ⊢
      clear hQ
      go_loopw [14, 15] (fun s14 s15 wr => ∃ k : Nat, k ≤ nq ∧ s15 = .int .i64 k ∧ s14 = .bool (fd (m.take k) x).isSome ∧ Hid (Cw w8 wr (Q + 1) (fd (m.take k) x))) (fun _ s15 _ => nq - (intOf s15).toNat)
      case atStart => exact ⟨0, by omega, rfl, rfl, hCw⟩
      case round =>
        obtain ⟨j, hj, rfl, rfl, hcw⟩ := hrel
        have gB := ch_gb hcw.out.ch
        have V9 := hide (V8.out.grown gB (by simp; omega))
        by_cases hjt : j < nq
        · have hIr := is_grown' HIQ8.out gB (fun h9 y hy e => by have := hqb.out h9 y hy; injection e with e; omega)
          obtain ⟨b0, off, ea, hc⟩ := hIr.2.2.2 (by omega)
          subst ea
          obtain ⟨y, hy⟩ : ∃ y, m[j]? = some y := ⟨_, List.getElem?_eq_getElem (by rw [HNQ.out]; exact hjt)⟩
          have hv := hide (hc j y hy)
          have hst := hide (fd_step HR.out x y j hy)
          have hbq := hide (hqb.out (by omega) _ rfl)
          obtain ⟨S, K, T, V, X⟩ := x
          obtain ⟨S0, K0, T0, V0', X0⟩ := y
          unfold Vt at hv
          simp only at hv V9
          have d0 : ∀ p : Kp wr, p.W.cell? ⟨R, 0, none⟩ = some (.int .i64 S) := fun p => by simpa using (V9.out.keep p.h).1
          have d1 : ∀ p : Kp wr, p.W.cell? ⟨R, 1, none⟩ = some (.int .i64 K) := fun p => by simpa using (V9.out.keep p.h).2.1
          have d2 : ∀ p : Kp wr, p.W.cell? ⟨R, 2, none⟩ = some (.int .u64 T) := fun p => by simpa using (V9.out.keep p.h).2.2.1
          have d3 : ∀ p : Kp wr, p.W.cell? ⟨R, 3, none⟩ = some (.int .u64 V) := fun p => by simpa using (V9.out.keep p.h).2.2.2.1
          have d4 : ∀ p : Kp wr, p.W.cell? ⟨R, 4, none⟩ = some (.int .i64 X) := fun p => by simpa using (V9.out.keep p.h).2.2.2.2
          have f0 : ∀ p : Kp wr, p.W.cell? ⟨b0, off + j * 5, none⟩ = some (.int .i64 S0) := fun p => (hv.out.keep p.h).1
          have f1 : ∀ p : Kp wr, p.W.cell? ⟨b0, off + j * 5 + 1, none⟩ = some (.int .i64 K0) := fun p => (hv.out.keep p.h).2.1
          have f2 : ∀ p : Kp wr, p.W.cell? ⟨b0, off + j * 5 + 2, none⟩ = some (.int .u64 T0) := fun p => (hv.out.keep p.h).2.2.1
          have f3 : ∀ p : Kp wr, p.W.cell? ⟨b0, off + j * 5 + 3, none⟩ = some (.int .u64 V0') := fun p => (hv.out.keep p.h).2.2.2.1
          have f4 : ∀ p : Kp wr, p.W.cell? ⟨b0, off + j * 5 + 4, none⟩ = some (.int .i64 X0) := fun p => (hv.out.keep p.h).2.2.2.2
          obtain ⟨o3, ho3⟩ : ∃ o, sameI S0 K0 T0 S K T = o := ⟨_, rfl⟩
          have c0 : Hid (∀ p : Kp wr, Calls Try.prog 20 #[.agg #[.int .i64 S0, .int .i64 K0, .int .u64 T0, .int .u64 V0', .int .i64 X0], .agg #[.int .i64 S, .int .i64 K, .int .u64 T, .int .u64 V, .int .i64 X]] p.W fun e w'' => e = .returned (.bool o3) ∧ ∃ q : Kp wr, w'' = q.W) := hide fun p => kp_call (by rw [← ho3]; exact refsame_any S0 K0 T0 V0' X0 S K T V X _)
          have HO3 := hide (show It.same ⟨S0, K0, T0, V0', X0⟩ ⟨S, K, T, V, X⟩ = o3 from ho3)
          have hjz : (j : Int) < (nq : Int) := by omega
          have hne : Nonempty (Kp wr) := ⟨⟨_, Below.refl _ _⟩⟩
          clear hc hy ho3 hIr gB
          rw [HO3.out] at hst
          cases o3 with
          | false =>
            rw [if_neg Bool.false_ne_true] at hst
            rw [← hst.out] at hcw ⊢
            go_wp2_with fail
            refine wp_region_kept (by kernel_rfl) (by kernel_rfl) ?_
            repeat (first
              | go_big_quiet_step (first | (go_at_call 20; exact c0.out _))
              | fail)
            refine wpQuiet_nil ?_
            intro w9 hw'
            have hb9 : Hid (Below wr.heap.size wr w9) := by
              obtain ⟨⟨w3', hb3⟩, hw''⟩ := hw'
              rw [hw'']; exact hide hb3
            clear hw' hne c0 d0 d1 d2 d3 d4 f0 f1 f2 f3 f4
            go_wp2
            go_roundw
            case rel => exact ⟨j + 1, by omega, by go_num, rfl, hide ⟨hcw.out.ch.trans (Ch.of hb9.out), hcw.out.vx.keep hb9.out⟩⟩
            case measure => simp [intOf]; omega
          | true =>
            rw [if_pos rfl] at hst
            go_wp2_with fail
            refine wp_region_kept (by kernel_rfl) (by kernel_rfl) ?_
            repeat (first
              | go_big_quiet_step (first | (go_at_call 20; exact c0.out _))
              | fail)
            refine wpQuiet_nil ?_
            intro w9 hw'
            have hb9 : Hid (Below wr.heap.size wr w9) := by
              obtain ⟨⟨w3', hb3⟩, hw''⟩ := hw'
              rw [hw'']; exact hide hb3
            have VX := hide (hcw.out.vx.keep hb9.out)
            have gx := VX.out
            unfold Vx Vi Vf at gx
            simp only [Nat.zero_add] at gx
            obtain ⟨⟨y0, y1, y2, y3, y4⟩, s0, s1, s2, s3, s4⟩ := gx
            have e1 := f0 ⟨w9, hb9.out⟩
            have e2 := f1 ⟨w9, hb9.out⟩
            have e3 := f2 ⟨w9, hb9.out⟩
            have e4 := f3 ⟨w9, hb9.out⟩
            have e5 := f4 ⟨w9, hb9.out⟩
            simp only at e1 e2 e3 e4 e5
            have hbq2 : b0 ≠ Q + 1 := (by
              have hh := hbq.out
              try simp only at hh
              omega)
            clear hw' hne c0 d0 d1 d2 d3 d4 f0 f1 f2 f3 f4
            go_wp2
            go_roundw
            case rel => exact ⟨j + 1, by omega, by go_num, by rw [hst.out]; rfl, hide (by rw [hst.out]; exact ⟨(hcw.out.ch.trans (Ch.of hb9.out)).trans ⟨(gb_putI w9 (Q + 1) S0 K0 T0 V0' X0).os, (gb_putI w9 (Q + 1) S0 K0 T0 V0' X0).tape, (gb_putI w9 (Q + 1) S0 K0 T0 V0' X0).output, (gb_putI w9 (Q + 1) S0 K0 T0 V0' X0).size, fun i hi hne => (gb_putI w9 (Q + 1) S0 K0 T0 V0' X0).block i hi (fun e => hne (by injection e))⟩, VX.out.put S0 K0 T0 V0' X0⟩)⟩
            case measure => simp [intOf]; omega
        · obtain rfl : j = nq := by omega
          have htk : m.take j = m := by rw [← HNQ.out]; exact List.take_length
          rw [htk] at hcw
          rw [htk, HOB.out]
          have hvx := hcw.out.vx
          rw [HOI.out] at hvx
          have gx := hvx
          unfold Vx Vi Vf at gx
          simp only [Nat.zero_add] at gx
          obtain ⟨⟨y0, y1, y2, y3, y4⟩, -⟩ := gx
          have U10 := U9.out.grown gB (by first | (simp; done) | (simp; omega))
          unfold Vi at U10
          simp only [Nat.zero_add] at U10
          obtain ⟨t0, t1, t2, t3, t4⟩ := U10
          have hbo : (ob == ob) = true := by simp
          have hfin := hide (Below.ch (bmore B1.out B8.out) hcw.out.ch (Nat.le_trans B1.out.size B8.out.size) (fun i hi => by rw [hi]; have := hwsz.out; omega))
          clear hvx htk hcw gB V9
          go_wp2_with (first | (go_at_call 8; refine (awake_any _).mono ?_; rintro e w9 ⟨rfl, hb9⟩))
          go_ret
          exact ⟨rfl, bmore hfin.out hb9⟩
theorem cuts_walk (a0 : Option Addr) (len0 cap0 : Nat) (l : List It) (most : Int) (x : It) (w : World) (h0 : Is w a0 len0 cap0 l) (hl0 : len0 ≤ 9223372036854775807) (hc0 : cap0 ≤ 9223372036854775807) :
    Calls Try.prog 4 #[.slice a0 len0 cap0, .int .i64 most, .agg #[.int .i64 x.S, .int .i64 x.K, .int .u64 x.T, .int .u64 x.V, .int .i64 x.X]] w fun e w' => e = .returned (.bool true) ∧ Below w.heap.size w w' := by
  by_cases h : 300 < len0
  · exact cuts_long a0 len0 cap0 most x w hl0 h
  · exact cuts_go a0 len0 cap0 l most x w h0 hc0 (by omega)

end Go.Proofs.Ytcgfopkoalnjkaa.Clep
