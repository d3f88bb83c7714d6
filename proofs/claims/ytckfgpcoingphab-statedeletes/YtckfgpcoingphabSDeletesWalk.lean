/- StateDeletes, walked: for any list, any series, any version. No conditions. -/
import Derived.Test.YtckfgpcoingphabSDelMath
import Derived.Deep.RegionHeldLaw
import Derived.Laws.StructEq
namespace Go.Proofs.Ytckfgpcoingphab.Clep
open Go.RowKit
set_option linter.unusedVariables false

theorem ans_b {l : List It} {w : World} {e : Ending} {w' : World} (h : Ans l w e w') (k : Nat) (hl : l.length ≤ k) : ∃ a n c, e = .returned (.slice a n c) ∧ n ≤ k ∧ (Is w' a n c l ∧ Below w.heap.size w w') := by
  obtain ⟨a, c, h1, h2, _, h4⟩ := h
  exact ⟨a, _, c, h1, hl, h2, h4⟩
theorem vxs {w : World} {R : Nat} {S K T V X : Int} (h : Vx w R S K T V X) : (w.cell? ⟨R, 0, none⟩ = some (.int .i64 S) ∧ w.cell? ⟨R, 1, none⟩ = some (.int .i64 K) ∧ w.cell? ⟨R, 2, none⟩ = some (.int .u64 T) ∧ w.cell? ⟨R, 3, none⟩ = some (.int .u64 V) ∧ w.cell? ⟨R, 4, none⟩ = some (.int .i64 X)) ∧ w.frozen? ⟨R, 0, none⟩ = false ∧ w.frozen? ⟨R, 1, none⟩ = false ∧ w.frozen? ⟨R, 2, none⟩ = false ∧ w.frozen? ⟨R, 3, none⟩ = false ∧ w.frozen? ⟨R, 4, none⟩ = false := by
  have := h
  unfold Vx Vi Vf at this
  simpa only [Nat.zero_add] using this
theorem sadd_len1 (l : List It) (x : It) : (saddL l x).length ≤ l.length + 1 := by
  unfold saddL
  split
  · have := ofL_len (l ++ [x]); simpa using this
  · omega

set_option maxRecDepth 4000 in
set_option maxHeartbeats 16000000 in
theorem deletes_walk (a0 : Option Addr) (len0 cap0 : Nat) (l : List It) (s v : Int) (w : World) (h0 : Is w a0 len0 cap0 l) (hm0 : len0 ≤ 9223372036854775807) :
    Calls Try.prog 4 #[.slice a0 len0 cap0, .int .i64 s, .int .u64 v] w fun e w' => e = .returned (.bool true) ∧ Below w.heap.size w w' := by
  have hLl := hide h0.1
  have I_l := hide h0
  clear h0
  by_cases hlong : 50 < len0
  · go_enter Try.func4, Try.ntmps4
    go_wp2_with fail
    refine (awake6_any _).mono ?_
    rintro e w1 ⟨rfl, b1⟩
    go_wp2
    go_ret
    exact ⟨rfl, b1⟩
  obtain ⟨ss, hss⟩ : ∃ t, bits .and .i64 s 255 = t := ⟨_, rfl⟩
  have hsb := and8 s
  rw [hss] at hsb
  obtain ⟨D, hD⟩ : ∃ t, bits .and .u64 v 281474976710655 = t := ⟨_, rfl⟩
  have hDb := and48 v
  rw [hD] at hDb
  obtain ⟨D1, hD1⟩ : ∃ t, D + 1 = t := ⟨_, rfl⟩
  have hDw : (D + 1) % 18446744073709551616 = D1 := by omega
  have hDw2 : IntKind.u64.wrap (D + 1) = D1 := by simp [IntKind.wrap, IntKind.bits, IntKind.signed]; omega
  have hDr : 1 ≤ D1 ∧ D1 ≤ 281474976710656 := by omega
  have htok : Hid (It.ok (⟨ss, 1, 0, D1, 0⟩ : It) = true) := hide (by simp [It.ok, okI]; omega)
  have htw : Hid (It.wf (⟨ss, 1, 0, D1, 0⟩ : It)) := hide (by unfold It.wf; simp; omega)
  have HB := hide ((Below.refl _ w).alloc (Nat.le_refl _) (Obj.cells #[Value.int IntKind.i64 ss, Value.int IntKind.i64 1, Value.int IntKind.u64 0, Value.int IntKind.u64 D1, Value.int IntKind.i64 0] 26))
  have V_t := hide (vi_new w ss 1 0 D1 0)
  replace I_l := hide (I_l.out.below HB.out (Nat.le_refl _))
  go_enter Try.func4, Try.ntmps4
  go_wp2_with fail
  obtain ⟨Rt, hRt⟩ : ∃ R, w.heap.size = R := ⟨_, rfl⟩
  obtain ⟨w0, hw0⟩ : ∃ z, w.alloc (Obj.cells #[Value.int IntKind.i64 ss, Value.int IntKind.i64 1, Value.int IntKind.u64 0, Value.int IntKind.u64 D1, Value.int IntKind.i64 0] 26) = z := ⟨_, rfl⟩
  rw [hw0] at HB V_t I_l ⊢
  have HRt := hide hRt
  have HWW := hide HB.out
  rw [hRt] at V_t ⊢
  clear hw0 hRt hD1 HB
  have HL := hide (fun W (hW : Below w0.heap.size w0 W) => I_l.out.below hW (Nat.le_refl _))
  have HT := hide (fun W (hW : Below w0.heap.size w0 W) => V_t.out.keep hW)
  have HK : Hid (∀ W, Below w0.heap.size w0 W → (Below w0.heap.size w0 W ∧ W.cell? ⟨Rt, 0, none⟩ = some (.int .i64 ss) ∧ W.cell? ⟨Rt, 1, none⟩ = some (.int .i64 1) ∧ W.cell? ⟨Rt, 2, none⟩ = some (.int .u64 0) ∧ W.cell? ⟨Rt, 3, none⟩ = some (.int .u64 D1) ∧ W.cell? ⟨Rt, 4, none⟩ = some (.int .i64 0))) := hide fun W hW => ⟨hW, HT.out W hW⟩
  have hbz : Below w0.heap.size w0 w0 := Below.refl _ _
  have cO : Hid (∀ W, Below w0.heap.size w0 W → Calls Try.prog 8 #[.slice a0 len0 cap0] W (fun e w' => ∃ a n c, e = .returned (.slice a n c) ∧ n ≤ 50 ∧ (Is w' a n c (ofL l) ∧ Below W.heap.size W w'))) := hide fun W hW => (of_any a0 len0 cap0 l W (HL.out W hW) (by omega)).mono fun e w' h => ans_b h 50 (by have := ofL_len l; have := hLl.out; omega)
  have cA : Hid (∀ W a n c, n ≤ 50 → Is W a n c (ofL l) → Calls Try.prog 10 #[.slice a n c, .agg #[.int .i64 ss, .int .i64 1, .int .u64 0, .int .u64 D1, .int .i64 0]] W (fun e w' => ∃ a n c, e = .returned (.slice a n c) ∧ n ≤ 51 ∧ (Is w' a n c (saddL (ofL l) (⟨ss, 1, 0, D1, 0⟩ : It)) ∧ Below W.heap.size W w'))) := hide fun W a n c hn hI => (add_any a n c (ofL l) ss 1 0 D1 0 W hI (by omega) htw.out).mono fun e w' h => ans_b h 51 (by have := sadd_len1 (ofL l) (⟨ss, 1, 0, D1, 0⟩ : It); have := ofL_len l; have := hLl.out; omega)
  have cJ : Hid (∀ W a n c, Below w0.heap.size w0 W → n ≤ 51 → Is W a n c (saddL (ofL l) (⟨ss, 1, 0, D1, 0⟩ : It)) → Calls Try.prog 9 #[.slice a n c, .slice a0 len0 cap0] W (fun e w' => ∃ a n c, e = .returned (.slice a n c) ∧ n ≤ 51 ∧ (Is w' a n c (ofL (l ++ [(⟨ss, 1, 0, D1, 0⟩ : It)])) ∧ Below W.heap.size W w'))) := hide fun W a n c hW hn hI => (join_any a a0 n c len0 cap0 _ l W hI (HL.out W hW) (by omega) (by omega)).mono fun e w' h => by rw [del_a] at h; exact ans_b h 51 (by have h9 := ofL_len (l ++ [(⟨ss, 1, 0, D1, 0⟩ : It)]); rw [List.length_append] at h9; have := hLl.out; simp at h9; omega)
  go_region_held_law (fun W => Below w0.heap.size w0 W ∧ W.cell? ⟨Rt, 0, none⟩ = some (.int .i64 ss) ∧ W.cell? ⟨Rt, 1, none⟩ = some (.int .i64 1) ∧ W.cell? ⟨Rt, 2, none⟩ = some (.int .u64 0) ∧ W.cell? ⟨Rt, 3, none⟩ = some (.int .u64 D1) ∧ W.cell? ⟨Rt, 4, none⟩ = some (.int .i64 0))
    (first
    | exact HK.out _ (by assumption)
    | exact HK.out _ (Below.drew (by assumption)))
    (first
    | (go_at_call 8; refine (cO.out _ (And.left (by assumption))).mono ?_; rintro e wa ⟨aa, na, ca, rfl, hna, hIa, ba⟩; have hba : Below w0.heap.size w0 wa := bmore (And.left (by assumption)) ba)
    | (go_at_call 10; refine (cA.out _ _ _ _ hna hIa).mono ?_; rintro e wb ⟨ab, nb, cb, rfl, hnb, hIb, bb⟩; have hbb : Below w0.heap.size w0 wb := bmore (And.left (by assumption)) bb)
    | (go_at_call 9; refine (cJ.out _ _ _ _ (And.left (by assumption)) hnb hIb).mono ?_; rintro e wc ⟨a_a, n_a, c_a, rfl, N_a, hIc, bc⟩; have hbc : Below w0.heap.size w0 wc := bmore (And.left (by assumption)) bc))
  have I_a := hide hIc
  have HB := hide hbc
  clear hna hIa ba hba hnb hIb bb hbb hIc bc hbc cO cA cJ hbz HK
  replace I_l := hide (HL.out _ HB.out)
  replace V_t := hide (HT.out _ HB.out)
  have q_t := V_t.out
  unfold Vi at q_t
  simp only [Nat.zero_add] at q_t
  obtain ⟨t0, t1, t2, t3, t4⟩ := q_t
  go_wp2_with fail
  refine (add_any none 0 0 [] ss 1 0 D1 0 _ (is_nil _) (by omega) htw.out).mono ?_
  intro e w51 hans
  obtain ⟨a_e, n_e, c_e, rfl, i_e, b51⟩ := ans_n hans
  have N_e : n_e ≤ 1 := by have hq := i_e.1; have := sadd_len1 [] (⟨ss, 1, 0, D1, 0⟩ : It); simp at this; omega
  have I_e := hide i_e
  clear hans i_e
  clear t0 t1 t2 t3 t4
  replace I_l := hide (I_l.out.below b51 (Nat.le_refl _))
  replace I_a := hide (I_a.out.below b51 (Nat.le_refl _))
  replace V_t := hide (V_t.out.keep b51)
  replace HB := hide (bmore HB.out b51)
  clear b51
  go_wp2_with fail
  refine (join_any _ _ _ _ _ _ _ _ _ I_e.out I_l.out (by omega) (by omega)).mono ?_
  intro e w52 hans
  obtain ⟨a_b, n_b, c_b, rfl, i_b, b52⟩ := ans_n hans
  have N_b : n_b ≤ 51 := by have hq := i_b.1; have h9 := ofL_len (saddL [] (⟨ss, 1, 0, D1, 0⟩ : It) ++ l); rw [List.length_append] at h9; have := I_e.out.1; have := hLl.out; omega
  have I_b := hide i_b
  clear hans i_b
  replace I_l := hide (I_l.out.below b52 (Nat.le_refl _))
  replace I_a := hide (I_a.out.below b52 (Nat.le_refl _))
  replace I_e := hide (I_e.out.below b52 (Nat.le_refl _))
  replace V_t := hide (V_t.out.keep b52)
  replace HB := hide (bmore HB.out b52)
  clear b52
  clear I_e
  obtain ⟨tm, htm⟩ : ∃ x, tombL (ofL (l ++ [(⟨ss, 1, 0, D1, 0⟩ : It)])) ss = x := ⟨_, rfl⟩
  have htmv : D1 ≤ tm := by have := del_tomb (l := l) (t := (⟨ss, 1, 0, D1, 0⟩ : It)) rfl htok.out; simp only at this; omega
  have HTM := hide htm
  have htmd : decide (tm < D1) = false := by simp; omega
  clear htm htmv
  have d0 : ∀ p : Kp w52, p.W.cell? ⟨Rt, 0, none⟩ = some (.int .i64 ss) := fun p => (V_t.out.keep p.h).1
  have d1 : ∀ p : Kp w52, p.W.cell? ⟨Rt, 1, none⟩ = some (.int .i64 1) := fun p => (V_t.out.keep p.h).2.1
  have d2 : ∀ p : Kp w52, p.W.cell? ⟨Rt, 2, none⟩ = some (.int .u64 0) := fun p => (V_t.out.keep p.h).2.2.1
  have d3 : ∀ p : Kp w52, p.W.cell? ⟨Rt, 3, none⟩ = some (.int .u64 D1) := fun p => (V_t.out.keep p.h).2.2.2.1
  have d4 : ∀ p : Kp w52, p.W.cell? ⟨Rt, 4, none⟩ = some (.int .i64 0) := fun p => (V_t.out.keep p.h).2.2.2.2
  have cE : Hid (∀ p : Kp w52, Calls Try.prog 7 #[.slice a_a n_a c_a, .slice a_b n_b c_b] p.W fun e w'' => e = .returned (.bool true) ∧ ∃ q : Kp w52, w'' = q.W) := hide fun p => kp_call ((refequal_any _ _ _ _ _ _ _ _ p.W (I_a.out.below p.h (Nat.le_refl _)) (I_b.out.below p.h (Nat.le_refl _)) (by omega) (by omega)).mono fun e w' h => by obtain ⟨o', h1, h2, h3⟩ := h; rw [h2.2 (del_b l (⟨ss, 1, 0, D1, 0⟩ : It)).symm] at h1; exact ⟨h1, h3⟩)
  have cT : Hid (∀ p : Kp w52, Calls Try.prog 11 #[.slice a_a n_a c_a, .int .i64 ss] p.W fun e w'' => e = .returned (.int .u64 tm) ∧ ∃ q : Kp w52, w'' = q.W) := hide fun p => kp_call (by have := tomb_any a_a n_a c_a _ ss p.W (I_a.out.below p.h (Nat.le_refl _)) (by omega); rw [HTM.out] at this; exact this)
  have hne : Nonempty (Kp w52) := ⟨⟨_, Below.refl _ _⟩⟩
  go_wp2_with fail
  refine wp_region_kept (by kernel_rfl) (by kernel_rfl) ?_
  repeat (first
    | go_big_quiet_step (first | (go_at_call 7; exact cE.out _) | (go_at_call 11; exact cT.out _))
    | fail)
  refine wpQuiet_nil ?_
  intro wz hw'
  have bz : Below w52.heap.size w52 wz := by
    obtain ⟨⟨w3', hb3⟩, hw''⟩ := hw'
    rw [hw'']; exact hb3
  have HA := hide (fun W (hW : Below wz.heap.size wz W) => (I_a.out.below bz (Nat.le_refl _)).below hW (Nat.le_refl _))
  have HLz := hide (fun W (hW : Below wz.heap.size wz W) => (I_l.out.below bz (Nat.le_refl _)).below hW (Nat.le_refl _))
  have HTz := hide (fun W (hW : Below wz.heap.size wz W) => (V_t.out.keep bz).keep hW)
  have HZ := hide (bmore HWW.out (bmore HB.out bz))
  have LA := hide I_a.out.1
  clear hw' hne cE cT d0 d1 d2 d3 d4 bz I_a I_b I_l V_t HB HL HT
  go_wp2_with fail
  go_loopw [10] (fun si wr => ∃ i : Nat, i ≤ n_a ∧ si = .int .i64 i ∧ Hid (Below wz.heap.size wz wr)) (fun si _ => n_a - (intOf si).toNat)
  case atStart => exact ⟨0, by omega, rfl, hide (Below.refl _ _)⟩
  case round =>
    obtain ⟨i, hile, rfl, hbel⟩ := hrel
    by_cases hlt : i < n_a
    · obtain ⟨b0, off, ea, hc⟩ := (HA.out _ hbel.out).2.2.2 (by omega)
      subst ea
      obtain ⟨z, hz⟩ : ∃ z, (ofL (l ++ [(⟨ss, 1, 0, D1, 0⟩ : It)]))[i]? = some z := ⟨_, List.getElem?_eq_getElem (by rw [LA.out]; exact hlt)⟩
      have hvz := hide (hc i z hz)
      have hzn := hide (fun (h1 : z.S = ss) (h2 : z.K = 2) => del_none (l := l) (t := (⟨ss, 1, 0, D1, 0⟩ : It)) rfl htok.out (List.mem_of_getElem? hz) h1 h2)
      obtain ⟨S, K, T, V, X⟩ := z
      unfold Vt at hvz
      simp only at hvz hzn
      have hvt := hide (HTz.out _ hbel.out)
      clear hc hz
      have d0 : ∀ p : Kp wr, p.W.cell? ⟨Rt, 0, none⟩ = some (.int .i64 ss) := fun p => (hvt.out.keep p.h).1
      have d1 : ∀ p : Kp wr, p.W.cell? ⟨Rt, 1, none⟩ = some (.int .i64 1) := fun p => (hvt.out.keep p.h).2.1
      have d2 : ∀ p : Kp wr, p.W.cell? ⟨Rt, 2, none⟩ = some (.int .u64 0) := fun p => (hvt.out.keep p.h).2.2.1
      have d3 : ∀ p : Kp wr, p.W.cell? ⟨Rt, 3, none⟩ = some (.int .u64 D1) := fun p => (hvt.out.keep p.h).2.2.2.1
      have d4 : ∀ p : Kp wr, p.W.cell? ⟨Rt, 4, none⟩ = some (.int .i64 0) := fun p => (hvt.out.keep p.h).2.2.2.2
      have f0 : ∀ p : Kp wr, p.W.cell? ⟨b0, off + i * 5, none⟩ = some (.int .i64 S) := fun p => (hvz.out.keep p.h).1
      have f1 : ∀ p : Kp wr, p.W.cell? ⟨b0, off + i * 5 + 1, none⟩ = some (.int .i64 K) := fun p => (hvz.out.keep p.h).2.1
      have f2 : ∀ p : Kp wr, p.W.cell? ⟨b0, off + i * 5 + 2, none⟩ = some (.int .u64 T) := fun p => (hvz.out.keep p.h).2.2.1
      have f3 : ∀ p : Kp wr, p.W.cell? ⟨b0, off + i * 5 + 3, none⟩ = some (.int .u64 V) := fun p => (hvz.out.keep p.h).2.2.2.1
      have f4 : ∀ p : Kp wr, p.W.cell? ⟨b0, off + i * 5 + 4, none⟩ = some (.int .i64 X) := fun p => (hvz.out.keep p.h).2.2.2.2
      by_cases e : S = ss
      · have qe : (S == ss) = true := by simp [e]
        by_cases f : K = 2
        · have qf : (K == 2) = true := by simp [f]
          have hgt := hzn.out e f
          have qg : decide (V ≤ D1) = false := by simp; omega
          clear e f hgt
          have hne : Nonempty (Kp wr) := ⟨⟨_, Below.refl _ _⟩⟩
          go_wp2_with fail
          refine wp_region_kept (by kernel_rfl) (by kernel_rfl) ?_
          repeat (first
            | go_big_quiet_step (fail)
            | fail)
          refine wpQuiet_nil ?_
          intro w9 hw'
          have b9 : Below wr.heap.size wr w9 := by
            obtain ⟨⟨w3', hb3⟩, hw''⟩ := hw'
            rw [hw'']; exact hb3
          clear hw' hne d0 d1 d2 d3 d4 f0 f1 f2 f3 f4
          replace hbel := hide (bmore hbel.out b9)
          go_wp2
          go_roundw
          case rel => exact ⟨i + 1, by omega, by go_num, hbel⟩
          case measure => simp [intOf]; omega
        · have qf : (K == 2) = false := by simp [f]
          clear e f
          have hne : Nonempty (Kp wr) := ⟨⟨_, Below.refl _ _⟩⟩
          go_wp2_with fail
          refine wp_region_kept (by kernel_rfl) (by kernel_rfl) ?_
          repeat (first
            | go_big_quiet_step (fail)
            | fail)
          refine wpQuiet_nil ?_
          intro w9 hw'
          have b9 : Below wr.heap.size wr w9 := by
            obtain ⟨⟨w3', hb3⟩, hw''⟩ := hw'
            rw [hw'']; exact hb3
          clear hw' hne d0 d1 d2 d3 d4 f0 f1 f2 f3 f4
          replace hbel := hide (bmore hbel.out b9)
          go_wp2
          go_roundw
          case rel => exact ⟨i + 1, by omega, by go_num, hbel⟩
          case measure => simp [intOf]; omega
      · have qe : (S == ss) = false := by simp [e]
        clear e
        have hne : Nonempty (Kp wr) := ⟨⟨_, Below.refl _ _⟩⟩
        go_wp2_with fail
        refine wp_region_kept (by kernel_rfl) (by kernel_rfl) ?_
        repeat (first
          | go_big_quiet_step (fail)
          | fail)
        refine wpQuiet_nil ?_
        intro w9 hw'
        have b9 : Below wr.heap.size wr w9 := by
          obtain ⟨⟨w3', hb3⟩, hw''⟩ := hw'
          rw [hw'']; exact hb3
        clear hw' hne d0 d1 d2 d3 d4 f0 f1 f2 f3 f4
        replace hbel := hide (bmore hbel.out b9)
        go_wp2
        go_roundw
        case rel => exact ⟨i + 1, by omega, by go_num, hbel⟩
        case measure => simp [intOf]; omega
    · have I_l := hide (HLz.out _ hbel.out)
      have HB := hide (bmore HZ.out hbel.out)
      go_wp2_with fail
      refine (of_any a0 len0 cap0 l _ I_l.out (by omega)).mono ?_
      intro e w1 hans
      obtain ⟨a_w, n_w, c_w, rfl, N_w, i_w, b1⟩ := ans_b hans 50 (by have := ofL_len l; have := hLl.out; omega)
      have LW := hide i_w.1
      have HWz := hide (fun W (hW : Below w1.heap.size w1 W) => i_w.below hW (Nat.le_refl _))
      have HA1 := hide (fun W (hW : Below w1.heap.size w1 W) => HA.out W (bmore hbel.out (bmore b1 hW)))
      have HT1 := hide (fun W (hW : Below w1.heap.size w1 W) => HTz.out W (bmore hbel.out (bmore b1 hW)))
      have HZ1 := hide (bmore HB.out b1)
      clear hans i_w b1 hbel I_l HB HA HTz HZ HLz
      go_wp2_with fail
      go_loopw [12] (fun si wr => ∃ i : Nat, i ≤ n_w ∧ si = .int .i64 i ∧ Hid (Below w1.heap.size w1 wr)) (fun si _ => n_w - (intOf si).toNat)
      case atStart => exact ⟨0, by omega, rfl, hide (Below.refl _ _)⟩
      case round =>
        obtain ⟨i, hile2, rfl, hbel⟩ := hrel
        by_cases hlt2 : i < n_w
        · obtain ⟨b0, off, ea, hc⟩ := (HWz.out _ hbel.out).2.2.2 (by omega)
          subst ea
          obtain ⟨z, hz⟩ : ∃ z, (ofL l)[i]? = some z := ⟨_, List.getElem?_eq_getElem (by rw [LW.out]; exact hlt2)⟩
          have hvz := hide (hc i z hz)
          have hzs := hide (fun (h1 : z.K = 2) (h2 : z.S ≠ ss ∨ D1 < z.V) => get_mem (ofL_stP (l ++ [(⟨ss, 1, 0, D1, 0⟩ : It)])).1 (del_stay (t := (⟨ss, 1, 0, D1, 0⟩ : It)) rfl (List.mem_of_getElem? hz) h1 h2) h1)
          obtain ⟨S, K, T, V, X⟩ := z
          unfold Vt at hvz
          simp only at hvz hzs
          have hvt := hide (HT1.out _ hbel.out)
          clear hc hz
          have d0 : ∀ p : Kp wr, p.W.cell? ⟨Rt, 0, none⟩ = some (.int .i64 ss) := fun p => (hvt.out.keep p.h).1
          have d1 : ∀ p : Kp wr, p.W.cell? ⟨Rt, 1, none⟩ = some (.int .i64 1) := fun p => (hvt.out.keep p.h).2.1
          have d2 : ∀ p : Kp wr, p.W.cell? ⟨Rt, 2, none⟩ = some (.int .u64 0) := fun p => (hvt.out.keep p.h).2.2.1
          have d3 : ∀ p : Kp wr, p.W.cell? ⟨Rt, 3, none⟩ = some (.int .u64 D1) := fun p => (hvt.out.keep p.h).2.2.2.1
          have d4 : ∀ p : Kp wr, p.W.cell? ⟨Rt, 4, none⟩ = some (.int .i64 0) := fun p => (hvt.out.keep p.h).2.2.2.2
          have f0 : ∀ p : Kp wr, p.W.cell? ⟨b0, off + i * 5, none⟩ = some (.int .i64 S) := fun p => (hvz.out.keep p.h).1
          have f1 : ∀ p : Kp wr, p.W.cell? ⟨b0, off + i * 5 + 1, none⟩ = some (.int .i64 K) := fun p => (hvz.out.keep p.h).2.1
          have f2 : ∀ p : Kp wr, p.W.cell? ⟨b0, off + i * 5 + 2, none⟩ = some (.int .u64 T) := fun p => (hvz.out.keep p.h).2.2.1
          have f3 : ∀ p : Kp wr, p.W.cell? ⟨b0, off + i * 5 + 3, none⟩ = some (.int .u64 V) := fun p => (hvz.out.keep p.h).2.2.2.1
          have f4 : ∀ p : Kp wr, p.W.cell? ⟨b0, off + i * 5 + 4, none⟩ = some (.int .i64 X) := fun p => (hvz.out.keep p.h).2.2.2.2
          by_cases e : S = ss
          · have qe : (S != ss) = false := by simp [e]
            by_cases f : K = 2
            · have qf : (K == 2) = true := by simp [f]
              by_cases h : D1 < V
              · have qh : decide (D1 < V) = true := by simp [h]
                have hg := hide (hzs.out f (.inr h))
                clear e f h
                have hne : Nonempty (Kp wr) := ⟨⟨_, Below.refl _ _⟩⟩
                go_wp2_with fail
                refine wp_region_kept (by kernel_rfl) (by kernel_rfl) ?_
                repeat (first
                  | go_big_quiet_step (fail)
                  | fail)
                refine wpQuiet_nil ?_
                intro w9 hw'
                have b9 : Below wr.heap.size wr w9 := by
                  obtain ⟨⟨w3', hb3⟩, hw''⟩ := hw'
                  rw [hw'']; exact hb3
                clear hw' hne d0 d1 d2 d3 d4 f0 f1 f2 f3 f4
                have bA := hide (bmore hbel.out b9)
                have hvz9 := hide (hvz.out.keep b9)
                have cG : Hid (∀ W, Below w9.heap.size w9 W → Calls Try.prog 12 #[.slice a_a n_a c_a, .int .i64 S, .int .u64 T] W (fun e w' => e = .returned (.tuple #[.agg #[.int .i64 S, .int .i64 K, .int .u64 T, .int .u64 V, .int .i64 X], .bool true]) ∧ Below W.heap.size W w')) := hide fun W hW => by
                  have := get_any a_a n_a c_a _ S T W (HA1.out W (bmore bA.out hW)) (by omega)
                  rw [hg.out] at this
                  exact this
                have HK : Hid (∀ W, Below w9.heap.size w9 W → (Below w9.heap.size w9 W ∧ W.cell? ⟨b0, off + i * 5, none⟩ = some (.int .i64 S) ∧ W.cell? ⟨b0, off + i * 5 + 2, none⟩ = some (.int .u64 T))) := hide fun W hW => ⟨hW, (hvz9.out.keep hW).1, (hvz9.out.keep hW).2.2.1⟩
                have hAl : Hid (∀ W o, Below w9.heap.size w9 W → Below w9.heap.size w9 (W.alloc o)) := hide fun W o h => h.alloc h.size o
                have hbz : Below w9.heap.size w9 w9 := Below.refl _ _
                have hSt : Hid (∀ (W : World) (a b c d e : Value), Below w9.heap.size w9 W → Below w9.heap.size w9 (((((W.setCell ⟨w9.heap.size, 0, none⟩ a).setCell ⟨w9.heap.size, 1, none⟩ b).setCell ⟨w9.heap.size, 2, none⟩ c).setCell ⟨w9.heap.size, 3, none⟩ d).setCell ⟨w9.heap.size, 4, none⟩ e)) := hide fun W a b c d e h => ((((h.setCell (p := ⟨w9.heap.size, 0, none⟩) (Nat.le_refl _) a).setCell (p := ⟨w9.heap.size, 1, none⟩) (Nat.le_refl _) b).setCell (p := ⟨w9.heap.size, 2, none⟩) (Nat.le_refl _) c).setCell (p := ⟨w9.heap.size, 3, none⟩) (Nat.le_refl _) d).setCell (p := ⟨w9.heap.size, 4, none⟩) (Nat.le_refl _) e
                have vxD := hide ((vx_new w9 0 0 0 0 0).keep ((Below.refl _ _).drew))
                have vxE := hide (vx_new w9 0 0 0 0 0)
                go_wp2_with fail
                go_region_held_law (fun W => Below w9.heap.size w9 W ∧ W.cell? ⟨b0, off + i * 5, none⟩ = some (.int .i64 S) ∧ W.cell? ⟨b0, off + i * 5 + 2, none⟩ = some (.int .u64 T))
                  (first
                  | with_reducible exact HK.out _ (by assumption)
                  | with_reducible exact HK.out _ (Below.drew (by assumption))
                  | with_reducible exact HK.out _ (hAl.out _ _ (by assumption))
                  | with_reducible exact HK.out _ (Below.drew (hAl.out _ _ (by assumption)))
                  | with_reducible exact HK.out _ (hSt.out _ _ _ _ _ _ (by assumption)))
                  (first
                  | (go_at_call 12; refine (cG.out _ (And.left (by assumption))).mono ?_; rintro e w5 ⟨rfl, b5⟩; have hb5 : Below w9.heap.size w9 w5 := bmore (And.left (by assumption)) b5; first | (have hq : Below (World.drew (w9.alloc (Obj.cells #[Value.int IntKind.i64 0, Value.int IntKind.i64 0, Value.int IntKind.u64 0, Value.int IntKind.u64 0, Value.int IntKind.i64 0] 26))).heap.size (World.drew (w9.alloc (Obj.cells #[Value.int IntKind.i64 0, Value.int IntKind.i64 0, Value.int IntKind.u64 0, Value.int IntKind.u64 0, Value.int IntKind.i64 0] 26))) w5 := (by with_reducible assumption); have VX5 := hide (vxD.out.keep hq); obtain ⟨⟨ya0, ya1, ya2, ya3, ya4⟩, za0, za1, za2, za3, za4⟩ := vxs VX5.out) | (have hq : Below (w9.alloc (Obj.cells #[Value.int IntKind.i64 0, Value.int IntKind.i64 0, Value.int IntKind.u64 0, Value.int IntKind.u64 0, Value.int IntKind.i64 0] 26)).heap.size (w9.alloc (Obj.cells #[Value.int IntKind.i64 0, Value.int IntKind.i64 0, Value.int IntKind.u64 0, Value.int IntKind.u64 0, Value.int IntKind.i64 0] 26)) w5 := (by with_reducible assumption); have VX5 := hide (vxE.out.keep hq); obtain ⟨⟨ya0, ya1, ya2, ya3, ya4⟩, za0, za1, za2, za3, za4⟩ := vxs VX5.out) | skip))
                · have hbW : Hid (Below w9.heap.size w9 (w5.alloc (Obj.cells #[Value.int IntKind.i64 S, Value.int IntKind.i64 K, Value.int IntKind.u64 T, Value.int IntKind.u64 V, Value.int IntKind.i64 X] 26))) := hide (hAl.out _ (Obj.cells #[Value.int IntKind.i64 S, Value.int IntKind.i64 K, Value.int IntKind.u64 T, Value.int IntKind.u64 V, Value.int IntKind.i64 X] 26) hb5)
                  have hvz5 := hide (hvz9.out.keep hbW.out)
                  have V_x : Hid (Vi (w5.alloc (Obj.cells #[Value.int IntKind.i64 S, Value.int IntKind.i64 K, Value.int IntKind.u64 T, Value.int IntKind.u64 V, Value.int IntKind.i64 X] 26)) w5.heap.size 0 S K T V X) := hide (vi_new w5 S K T V X)
                  replace hbel := hide (bmore bA.out hbW.out)
                  clear cG HK hAl hbz b5 hb5 bA hvz9 b9 hSt vxD vxE hbW
                  have f0 : ∀ p : Kp (w5.alloc (Obj.cells #[Value.int IntKind.i64 S, Value.int IntKind.i64 K, Value.int IntKind.u64 T, Value.int IntKind.u64 V, Value.int IntKind.i64 X] 26)), p.W.cell? ⟨b0, off + i * 5, none⟩ = some (.int .i64 S) := fun p => (hvz5.out.keep p.h).1
                  have f1 : ∀ p : Kp (w5.alloc (Obj.cells #[Value.int IntKind.i64 S, Value.int IntKind.i64 K, Value.int IntKind.u64 T, Value.int IntKind.u64 V, Value.int IntKind.i64 X] 26)), p.W.cell? ⟨b0, off + i * 5 + 1, none⟩ = some (.int .i64 K) := fun p => (hvz5.out.keep p.h).2.1
                  have f2 : ∀ p : Kp (w5.alloc (Obj.cells #[Value.int IntKind.i64 S, Value.int IntKind.i64 K, Value.int IntKind.u64 T, Value.int IntKind.u64 V, Value.int IntKind.i64 X] 26)), p.W.cell? ⟨b0, off + i * 5 + 2, none⟩ = some (.int .u64 T) := fun p => (hvz5.out.keep p.h).2.2.1
                  have f3 : ∀ p : Kp (w5.alloc (Obj.cells #[Value.int IntKind.i64 S, Value.int IntKind.i64 K, Value.int IntKind.u64 T, Value.int IntKind.u64 V, Value.int IntKind.i64 X] 26)), p.W.cell? ⟨b0, off + i * 5 + 3, none⟩ = some (.int .u64 V) := fun p => (hvz5.out.keep p.h).2.2.2.1
                  have f4 : ∀ p : Kp (w5.alloc (Obj.cells #[Value.int IntKind.i64 S, Value.int IntKind.i64 K, Value.int IntKind.u64 T, Value.int IntKind.u64 V, Value.int IntKind.i64 X] 26)), p.W.cell? ⟨b0, off + i * 5 + 4, none⟩ = some (.int .i64 X) := fun p => (hvz5.out.keep p.h).2.2.2.2
                  have d0 : ∀ p : Kp (w5.alloc (Obj.cells #[Value.int IntKind.i64 S, Value.int IntKind.i64 K, Value.int IntKind.u64 T, Value.int IntKind.u64 V, Value.int IntKind.i64 X] 26)), p.W.cell? ⟨w5.heap.size, 0, none⟩ = some (.int .i64 S) := fun p => (V_x.out.keep p.h).1
                  have d1 : ∀ p : Kp (w5.alloc (Obj.cells #[Value.int IntKind.i64 S, Value.int IntKind.i64 K, Value.int IntKind.u64 T, Value.int IntKind.u64 V, Value.int IntKind.i64 X] 26)), p.W.cell? ⟨w5.heap.size, 1, none⟩ = some (.int .i64 K) := fun p => (V_x.out.keep p.h).2.1
                  have d2 : ∀ p : Kp (w5.alloc (Obj.cells #[Value.int IntKind.i64 S, Value.int IntKind.i64 K, Value.int IntKind.u64 T, Value.int IntKind.u64 V, Value.int IntKind.i64 X] 26)), p.W.cell? ⟨w5.heap.size, 2, none⟩ = some (.int .u64 T) := fun p => (V_x.out.keep p.h).2.2.1
                  have d3 : ∀ p : Kp (w5.alloc (Obj.cells #[Value.int IntKind.i64 S, Value.int IntKind.i64 K, Value.int IntKind.u64 T, Value.int IntKind.u64 V, Value.int IntKind.i64 X] 26)), p.W.cell? ⟨w5.heap.size, 3, none⟩ = some (.int .u64 V) := fun p => (V_x.out.keep p.h).2.2.2.1
                  have d4 : ∀ p : Kp (w5.alloc (Obj.cells #[Value.int IntKind.i64 S, Value.int IntKind.i64 K, Value.int IntKind.u64 T, Value.int IntKind.u64 V, Value.int IntKind.i64 X] 26)), p.W.cell? ⟨w5.heap.size, 4, none⟩ = some (.int .i64 X) := fun p => (V_x.out.keep p.h).2.2.2.2
                  have hne : Nonempty (Kp (w5.alloc (Obj.cells #[Value.int IntKind.i64 S, Value.int IntKind.i64 K, Value.int IntKind.u64 T, Value.int IntKind.u64 V, Value.int IntKind.i64 X] 26))) := ⟨⟨_, Below.refl _ _⟩⟩
                  go_wp2_with fail
                  refine wp_region_kept (by kernel_rfl) (by kernel_rfl) ?_
                  repeat (first
                    | go_big_quiet_step (fail)
                    | fail)
                  refine wpQuiet_nil ?_
                  intro w10 hw'
                  have b10 : Below (w5.alloc (Obj.cells #[Value.int IntKind.i64 S, Value.int IntKind.i64 K, Value.int IntKind.u64 T, Value.int IntKind.u64 V, Value.int IntKind.i64 X] 26)).heap.size (w5.alloc (Obj.cells #[Value.int IntKind.i64 S, Value.int IntKind.i64 K, Value.int IntKind.u64 T, Value.int IntKind.u64 V, Value.int IntKind.i64 X] 26)) w10 := by
                    obtain ⟨⟨w3', hb3⟩, hw''⟩ := hw'
                    rw [hw'']; exact hb3
                  clear hw' hne d0 d1 d2 d3 d4 f0 f1 f2 f3 f4
                  replace hbel := hide (bmore hbel.out b10)
                  go_wp2
                  go_roundw
                  case rel => exact ⟨i + 1, by omega, by go_num, hbel⟩
                  case measure => simp [intOf]; omega
                · have hbW : Hid (Below w9.heap.size w9 (((((w5.setCell ⟨w9.heap.size, 0, none⟩ (.int .i64 S)).setCell ⟨w9.heap.size, 1, none⟩ (.int .i64 K)).setCell ⟨w9.heap.size, 2, none⟩ (.int .u64 T)).setCell ⟨w9.heap.size, 3, none⟩ (.int .u64 V)).setCell ⟨w9.heap.size, 4, none⟩ (.int .i64 X))) := hide (hSt.out w5 (.int .i64 S) (.int .i64 K) (.int .u64 T) (.int .u64 V) (.int .i64 X) hb5)
                  have hvz5 := hide (hvz9.out.keep hbW.out)
                  have V_x : Hid (Vi (((((w5.setCell ⟨w9.heap.size, 0, none⟩ (.int .i64 S)).setCell ⟨w9.heap.size, 1, none⟩ (.int .i64 K)).setCell ⟨w9.heap.size, 2, none⟩ (.int .u64 T)).setCell ⟨w9.heap.size, 3, none⟩ (.int .u64 V)).setCell ⟨w9.heap.size, 4, none⟩ (.int .i64 X)) w9.heap.size 0 S K T V X) := hide ((VX5.out.put S K T V X).1)
                  replace hbel := hide (bmore bA.out hbW.out)
                  clear cG HK hAl hbz b5 hb5 bA hvz9 b9 hSt vxD vxE hbW
                  have f0 : ∀ p : Kp (((((w5.setCell ⟨w9.heap.size, 0, none⟩ (.int .i64 S)).setCell ⟨w9.heap.size, 1, none⟩ (.int .i64 K)).setCell ⟨w9.heap.size, 2, none⟩ (.int .u64 T)).setCell ⟨w9.heap.size, 3, none⟩ (.int .u64 V)).setCell ⟨w9.heap.size, 4, none⟩ (.int .i64 X)), p.W.cell? ⟨b0, off + i * 5, none⟩ = some (.int .i64 S) := fun p => (hvz5.out.keep p.h).1
                  have f1 : ∀ p : Kp (((((w5.setCell ⟨w9.heap.size, 0, none⟩ (.int .i64 S)).setCell ⟨w9.heap.size, 1, none⟩ (.int .i64 K)).setCell ⟨w9.heap.size, 2, none⟩ (.int .u64 T)).setCell ⟨w9.heap.size, 3, none⟩ (.int .u64 V)).setCell ⟨w9.heap.size, 4, none⟩ (.int .i64 X)), p.W.cell? ⟨b0, off + i * 5 + 1, none⟩ = some (.int .i64 K) := fun p => (hvz5.out.keep p.h).2.1
                  have f2 : ∀ p : Kp (((((w5.setCell ⟨w9.heap.size, 0, none⟩ (.int .i64 S)).setCell ⟨w9.heap.size, 1, none⟩ (.int .i64 K)).setCell ⟨w9.heap.size, 2, none⟩ (.int .u64 T)).setCell ⟨w9.heap.size, 3, none⟩ (.int .u64 V)).setCell ⟨w9.heap.size, 4, none⟩ (.int .i64 X)), p.W.cell? ⟨b0, off + i * 5 + 2, none⟩ = some (.int .u64 T) := fun p => (hvz5.out.keep p.h).2.2.1
                  have f3 : ∀ p : Kp (((((w5.setCell ⟨w9.heap.size, 0, none⟩ (.int .i64 S)).setCell ⟨w9.heap.size, 1, none⟩ (.int .i64 K)).setCell ⟨w9.heap.size, 2, none⟩ (.int .u64 T)).setCell ⟨w9.heap.size, 3, none⟩ (.int .u64 V)).setCell ⟨w9.heap.size, 4, none⟩ (.int .i64 X)), p.W.cell? ⟨b0, off + i * 5 + 3, none⟩ = some (.int .u64 V) := fun p => (hvz5.out.keep p.h).2.2.2.1
                  have f4 : ∀ p : Kp (((((w5.setCell ⟨w9.heap.size, 0, none⟩ (.int .i64 S)).setCell ⟨w9.heap.size, 1, none⟩ (.int .i64 K)).setCell ⟨w9.heap.size, 2, none⟩ (.int .u64 T)).setCell ⟨w9.heap.size, 3, none⟩ (.int .u64 V)).setCell ⟨w9.heap.size, 4, none⟩ (.int .i64 X)), p.W.cell? ⟨b0, off + i * 5 + 4, none⟩ = some (.int .i64 X) := fun p => (hvz5.out.keep p.h).2.2.2.2
                  have d0 : ∀ p : Kp (((((w5.setCell ⟨w9.heap.size, 0, none⟩ (.int .i64 S)).setCell ⟨w9.heap.size, 1, none⟩ (.int .i64 K)).setCell ⟨w9.heap.size, 2, none⟩ (.int .u64 T)).setCell ⟨w9.heap.size, 3, none⟩ (.int .u64 V)).setCell ⟨w9.heap.size, 4, none⟩ (.int .i64 X)), p.W.cell? ⟨w9.heap.size, 0, none⟩ = some (.int .i64 S) := fun p => (V_x.out.keep p.h).1
                  have d1 : ∀ p : Kp (((((w5.setCell ⟨w9.heap.size, 0, none⟩ (.int .i64 S)).setCell ⟨w9.heap.size, 1, none⟩ (.int .i64 K)).setCell ⟨w9.heap.size, 2, none⟩ (.int .u64 T)).setCell ⟨w9.heap.size, 3, none⟩ (.int .u64 V)).setCell ⟨w9.heap.size, 4, none⟩ (.int .i64 X)), p.W.cell? ⟨w9.heap.size, 1, none⟩ = some (.int .i64 K) := fun p => (V_x.out.keep p.h).2.1
                  have d2 : ∀ p : Kp (((((w5.setCell ⟨w9.heap.size, 0, none⟩ (.int .i64 S)).setCell ⟨w9.heap.size, 1, none⟩ (.int .i64 K)).setCell ⟨w9.heap.size, 2, none⟩ (.int .u64 T)).setCell ⟨w9.heap.size, 3, none⟩ (.int .u64 V)).setCell ⟨w9.heap.size, 4, none⟩ (.int .i64 X)), p.W.cell? ⟨w9.heap.size, 2, none⟩ = some (.int .u64 T) := fun p => (V_x.out.keep p.h).2.2.1
                  have d3 : ∀ p : Kp (((((w5.setCell ⟨w9.heap.size, 0, none⟩ (.int .i64 S)).setCell ⟨w9.heap.size, 1, none⟩ (.int .i64 K)).setCell ⟨w9.heap.size, 2, none⟩ (.int .u64 T)).setCell ⟨w9.heap.size, 3, none⟩ (.int .u64 V)).setCell ⟨w9.heap.size, 4, none⟩ (.int .i64 X)), p.W.cell? ⟨w9.heap.size, 3, none⟩ = some (.int .u64 V) := fun p => (V_x.out.keep p.h).2.2.2.1
                  have d4 : ∀ p : Kp (((((w5.setCell ⟨w9.heap.size, 0, none⟩ (.int .i64 S)).setCell ⟨w9.heap.size, 1, none⟩ (.int .i64 K)).setCell ⟨w9.heap.size, 2, none⟩ (.int .u64 T)).setCell ⟨w9.heap.size, 3, none⟩ (.int .u64 V)).setCell ⟨w9.heap.size, 4, none⟩ (.int .i64 X)), p.W.cell? ⟨w9.heap.size, 4, none⟩ = some (.int .i64 X) := fun p => (V_x.out.keep p.h).2.2.2.2
                  have hne : Nonempty (Kp (((((w5.setCell ⟨w9.heap.size, 0, none⟩ (.int .i64 S)).setCell ⟨w9.heap.size, 1, none⟩ (.int .i64 K)).setCell ⟨w9.heap.size, 2, none⟩ (.int .u64 T)).setCell ⟨w9.heap.size, 3, none⟩ (.int .u64 V)).setCell ⟨w9.heap.size, 4, none⟩ (.int .i64 X))) := ⟨⟨_, Below.refl _ _⟩⟩
                  go_wp2_with fail
                  refine wp_region_kept (by kernel_rfl) (by kernel_rfl) ?_
                  repeat (first
                    | go_big_quiet_step (fail)
                    | fail)
                  refine wpQuiet_nil ?_
                  intro w10 hw'
                  have b10 : Below (((((w5.setCell ⟨w9.heap.size, 0, none⟩ (.int .i64 S)).setCell ⟨w9.heap.size, 1, none⟩ (.int .i64 K)).setCell ⟨w9.heap.size, 2, none⟩ (.int .u64 T)).setCell ⟨w9.heap.size, 3, none⟩ (.int .u64 V)).setCell ⟨w9.heap.size, 4, none⟩ (.int .i64 X)).heap.size (((((w5.setCell ⟨w9.heap.size, 0, none⟩ (.int .i64 S)).setCell ⟨w9.heap.size, 1, none⟩ (.int .i64 K)).setCell ⟨w9.heap.size, 2, none⟩ (.int .u64 T)).setCell ⟨w9.heap.size, 3, none⟩ (.int .u64 V)).setCell ⟨w9.heap.size, 4, none⟩ (.int .i64 X)) w10 := by
                    obtain ⟨⟨w3', hb3⟩, hw''⟩ := hw'
                    rw [hw'']; exact hb3
                  clear hw' hne d0 d1 d2 d3 d4 f0 f1 f2 f3 f4
                  replace hbel := hide (bmore hbel.out b10)
                  go_wp2
                  go_roundw
                  case rel => exact ⟨i + 1, by omega, by go_num, hbel⟩
                  case measure => simp [intOf]; omega
              · have qh : decide (D1 < V) = false := by simp; omega
                clear e f h
                have hne : Nonempty (Kp wr) := ⟨⟨_, Below.refl _ _⟩⟩
                go_wp2_with fail
                refine wp_region_kept (by kernel_rfl) (by kernel_rfl) ?_
                repeat (first
                  | go_big_quiet_step (fail)
                  | fail)
                refine wpQuiet_nil ?_
                intro w9 hw'
                have b9 : Below wr.heap.size wr w9 := by
                  obtain ⟨⟨w3', hb3⟩, hw''⟩ := hw'
                  rw [hw'']; exact hb3
                clear hw' hne d0 d1 d2 d3 d4 f0 f1 f2 f3 f4
                replace hbel := hide (bmore hbel.out b9)
                go_wp2
                go_roundw
                case rel => exact ⟨i + 1, by omega, by go_num, hbel⟩
                case measure => simp [intOf]; omega
            · have qf : (K == 2) = false := by simp [f]
              clear e f
              have hne : Nonempty (Kp wr) := ⟨⟨_, Below.refl _ _⟩⟩
              go_wp2_with fail
              refine wp_region_kept (by kernel_rfl) (by kernel_rfl) ?_
              repeat (first
                | go_big_quiet_step (fail)
                | fail)
              refine wpQuiet_nil ?_
              intro w9 hw'
              have b9 : Below wr.heap.size wr w9 := by
                obtain ⟨⟨w3', hb3⟩, hw''⟩ := hw'
                rw [hw'']; exact hb3
              clear hw' hne d0 d1 d2 d3 d4 f0 f1 f2 f3 f4
              replace hbel := hide (bmore hbel.out b9)
              go_wp2
              go_roundw
              case rel => exact ⟨i + 1, by omega, by go_num, hbel⟩
              case measure => simp [intOf]; omega
          · have qe : (S != ss) = true := by simp [e]
            by_cases f : K = 2
            · have qf : (K == 2) = true := by simp [f]
              have hg := hide (hzs.out f (.inl e))
              clear e f
              have hne : Nonempty (Kp wr) := ⟨⟨_, Below.refl _ _⟩⟩
              go_wp2_with fail
              refine wp_region_kept (by kernel_rfl) (by kernel_rfl) ?_
              repeat (first
                | go_big_quiet_step (fail)
                | fail)
              refine wpQuiet_nil ?_
              intro w9 hw'
              have b9 : Below wr.heap.size wr w9 := by
                obtain ⟨⟨w3', hb3⟩, hw''⟩ := hw'
                rw [hw'']; exact hb3
              clear hw' hne d0 d1 d2 d3 d4 f0 f1 f2 f3 f4
              have bA := hide (bmore hbel.out b9)
              have hvz9 := hide (hvz.out.keep b9)
              have cG : Hid (∀ W, Below w9.heap.size w9 W → Calls Try.prog 12 #[.slice a_a n_a c_a, .int .i64 S, .int .u64 T] W (fun e w' => e = .returned (.tuple #[.agg #[.int .i64 S, .int .i64 K, .int .u64 T, .int .u64 V, .int .i64 X], .bool true]) ∧ Below W.heap.size W w')) := hide fun W hW => by
                have := get_any a_a n_a c_a _ S T W (HA1.out W (bmore bA.out hW)) (by omega)
                rw [hg.out] at this
                exact this
              have HK : Hid (∀ W, Below w9.heap.size w9 W → (Below w9.heap.size w9 W ∧ W.cell? ⟨b0, off + i * 5, none⟩ = some (.int .i64 S) ∧ W.cell? ⟨b0, off + i * 5 + 2, none⟩ = some (.int .u64 T))) := hide fun W hW => ⟨hW, (hvz9.out.keep hW).1, (hvz9.out.keep hW).2.2.1⟩
              have hAl : Hid (∀ W o, Below w9.heap.size w9 W → Below w9.heap.size w9 (W.alloc o)) := hide fun W o h => h.alloc h.size o
              have hbz : Below w9.heap.size w9 w9 := Below.refl _ _
              have hSt : Hid (∀ (W : World) (a b c d e : Value), Below w9.heap.size w9 W → Below w9.heap.size w9 (((((W.setCell ⟨w9.heap.size, 0, none⟩ a).setCell ⟨w9.heap.size, 1, none⟩ b).setCell ⟨w9.heap.size, 2, none⟩ c).setCell ⟨w9.heap.size, 3, none⟩ d).setCell ⟨w9.heap.size, 4, none⟩ e)) := hide fun W a b c d e h => ((((h.setCell (p := ⟨w9.heap.size, 0, none⟩) (Nat.le_refl _) a).setCell (p := ⟨w9.heap.size, 1, none⟩) (Nat.le_refl _) b).setCell (p := ⟨w9.heap.size, 2, none⟩) (Nat.le_refl _) c).setCell (p := ⟨w9.heap.size, 3, none⟩) (Nat.le_refl _) d).setCell (p := ⟨w9.heap.size, 4, none⟩) (Nat.le_refl _) e
              have vxD := hide ((vx_new w9 0 0 0 0 0).keep ((Below.refl _ _).drew))
              have vxE := hide (vx_new w9 0 0 0 0 0)
              go_wp2_with fail
              go_region_held_law (fun W => Below w9.heap.size w9 W ∧ W.cell? ⟨b0, off + i * 5, none⟩ = some (.int .i64 S) ∧ W.cell? ⟨b0, off + i * 5 + 2, none⟩ = some (.int .u64 T))
                (first
                | with_reducible exact HK.out _ (by assumption)
                | with_reducible exact HK.out _ (Below.drew (by assumption))
                | with_reducible exact HK.out _ (hAl.out _ _ (by assumption))
                | with_reducible exact HK.out _ (Below.drew (hAl.out _ _ (by assumption)))
                | with_reducible exact HK.out _ (hSt.out _ _ _ _ _ _ (by assumption)))
                (first
                | (go_at_call 12; refine (cG.out _ (And.left (by assumption))).mono ?_; rintro e w5 ⟨rfl, b5⟩; have hb5 : Below w9.heap.size w9 w5 := bmore (And.left (by assumption)) b5; first | (have hq : Below (World.drew (w9.alloc (Obj.cells #[Value.int IntKind.i64 0, Value.int IntKind.i64 0, Value.int IntKind.u64 0, Value.int IntKind.u64 0, Value.int IntKind.i64 0] 26))).heap.size (World.drew (w9.alloc (Obj.cells #[Value.int IntKind.i64 0, Value.int IntKind.i64 0, Value.int IntKind.u64 0, Value.int IntKind.u64 0, Value.int IntKind.i64 0] 26))) w5 := (by with_reducible assumption); have VX5 := hide (vxD.out.keep hq); obtain ⟨⟨ya0, ya1, ya2, ya3, ya4⟩, za0, za1, za2, za3, za4⟩ := vxs VX5.out) | (have hq : Below (w9.alloc (Obj.cells #[Value.int IntKind.i64 0, Value.int IntKind.i64 0, Value.int IntKind.u64 0, Value.int IntKind.u64 0, Value.int IntKind.i64 0] 26)).heap.size (w9.alloc (Obj.cells #[Value.int IntKind.i64 0, Value.int IntKind.i64 0, Value.int IntKind.u64 0, Value.int IntKind.u64 0, Value.int IntKind.i64 0] 26)) w5 := (by with_reducible assumption); have VX5 := hide (vxE.out.keep hq); obtain ⟨⟨ya0, ya1, ya2, ya3, ya4⟩, za0, za1, za2, za3, za4⟩ := vxs VX5.out) | skip))
              · have hbW : Hid (Below w9.heap.size w9 (w5.alloc (Obj.cells #[Value.int IntKind.i64 S, Value.int IntKind.i64 K, Value.int IntKind.u64 T, Value.int IntKind.u64 V, Value.int IntKind.i64 X] 26))) := hide (hAl.out _ (Obj.cells #[Value.int IntKind.i64 S, Value.int IntKind.i64 K, Value.int IntKind.u64 T, Value.int IntKind.u64 V, Value.int IntKind.i64 X] 26) hb5)
                have hvz5 := hide (hvz9.out.keep hbW.out)
                have V_x : Hid (Vi (w5.alloc (Obj.cells #[Value.int IntKind.i64 S, Value.int IntKind.i64 K, Value.int IntKind.u64 T, Value.int IntKind.u64 V, Value.int IntKind.i64 X] 26)) w5.heap.size 0 S K T V X) := hide (vi_new w5 S K T V X)
                replace hbel := hide (bmore bA.out hbW.out)
                clear cG HK hAl hbz b5 hb5 bA hvz9 b9 hSt vxD vxE hbW
                have f0 : ∀ p : Kp (w5.alloc (Obj.cells #[Value.int IntKind.i64 S, Value.int IntKind.i64 K, Value.int IntKind.u64 T, Value.int IntKind.u64 V, Value.int IntKind.i64 X] 26)), p.W.cell? ⟨b0, off + i * 5, none⟩ = some (.int .i64 S) := fun p => (hvz5.out.keep p.h).1
                have f1 : ∀ p : Kp (w5.alloc (Obj.cells #[Value.int IntKind.i64 S, Value.int IntKind.i64 K, Value.int IntKind.u64 T, Value.int IntKind.u64 V, Value.int IntKind.i64 X] 26)), p.W.cell? ⟨b0, off + i * 5 + 1, none⟩ = some (.int .i64 K) := fun p => (hvz5.out.keep p.h).2.1
                have f2 : ∀ p : Kp (w5.alloc (Obj.cells #[Value.int IntKind.i64 S, Value.int IntKind.i64 K, Value.int IntKind.u64 T, Value.int IntKind.u64 V, Value.int IntKind.i64 X] 26)), p.W.cell? ⟨b0, off + i * 5 + 2, none⟩ = some (.int .u64 T) := fun p => (hvz5.out.keep p.h).2.2.1
                have f3 : ∀ p : Kp (w5.alloc (Obj.cells #[Value.int IntKind.i64 S, Value.int IntKind.i64 K, Value.int IntKind.u64 T, Value.int IntKind.u64 V, Value.int IntKind.i64 X] 26)), p.W.cell? ⟨b0, off + i * 5 + 3, none⟩ = some (.int .u64 V) := fun p => (hvz5.out.keep p.h).2.2.2.1
                have f4 : ∀ p : Kp (w5.alloc (Obj.cells #[Value.int IntKind.i64 S, Value.int IntKind.i64 K, Value.int IntKind.u64 T, Value.int IntKind.u64 V, Value.int IntKind.i64 X] 26)), p.W.cell? ⟨b0, off + i * 5 + 4, none⟩ = some (.int .i64 X) := fun p => (hvz5.out.keep p.h).2.2.2.2
                have d0 : ∀ p : Kp (w5.alloc (Obj.cells #[Value.int IntKind.i64 S, Value.int IntKind.i64 K, Value.int IntKind.u64 T, Value.int IntKind.u64 V, Value.int IntKind.i64 X] 26)), p.W.cell? ⟨w5.heap.size, 0, none⟩ = some (.int .i64 S) := fun p => (V_x.out.keep p.h).1
                have d1 : ∀ p : Kp (w5.alloc (Obj.cells #[Value.int IntKind.i64 S, Value.int IntKind.i64 K, Value.int IntKind.u64 T, Value.int IntKind.u64 V, Value.int IntKind.i64 X] 26)), p.W.cell? ⟨w5.heap.size, 1, none⟩ = some (.int .i64 K) := fun p => (V_x.out.keep p.h).2.1
                have d2 : ∀ p : Kp (w5.alloc (Obj.cells #[Value.int IntKind.i64 S, Value.int IntKind.i64 K, Value.int IntKind.u64 T, Value.int IntKind.u64 V, Value.int IntKind.i64 X] 26)), p.W.cell? ⟨w5.heap.size, 2, none⟩ = some (.int .u64 T) := fun p => (V_x.out.keep p.h).2.2.1
                have d3 : ∀ p : Kp (w5.alloc (Obj.cells #[Value.int IntKind.i64 S, Value.int IntKind.i64 K, Value.int IntKind.u64 T, Value.int IntKind.u64 V, Value.int IntKind.i64 X] 26)), p.W.cell? ⟨w5.heap.size, 3, none⟩ = some (.int .u64 V) := fun p => (V_x.out.keep p.h).2.2.2.1
                have d4 : ∀ p : Kp (w5.alloc (Obj.cells #[Value.int IntKind.i64 S, Value.int IntKind.i64 K, Value.int IntKind.u64 T, Value.int IntKind.u64 V, Value.int IntKind.i64 X] 26)), p.W.cell? ⟨w5.heap.size, 4, none⟩ = some (.int .i64 X) := fun p => (V_x.out.keep p.h).2.2.2.2
                have hne : Nonempty (Kp (w5.alloc (Obj.cells #[Value.int IntKind.i64 S, Value.int IntKind.i64 K, Value.int IntKind.u64 T, Value.int IntKind.u64 V, Value.int IntKind.i64 X] 26))) := ⟨⟨_, Below.refl _ _⟩⟩
                go_wp2_with fail
                refine wp_region_kept (by kernel_rfl) (by kernel_rfl) ?_
                repeat (first
                  | go_big_quiet_step (fail)
                  | fail)
                refine wpQuiet_nil ?_
                intro w10 hw'
                have b10 : Below (w5.alloc (Obj.cells #[Value.int IntKind.i64 S, Value.int IntKind.i64 K, Value.int IntKind.u64 T, Value.int IntKind.u64 V, Value.int IntKind.i64 X] 26)).heap.size (w5.alloc (Obj.cells #[Value.int IntKind.i64 S, Value.int IntKind.i64 K, Value.int IntKind.u64 T, Value.int IntKind.u64 V, Value.int IntKind.i64 X] 26)) w10 := by
                  obtain ⟨⟨w3', hb3⟩, hw''⟩ := hw'
                  rw [hw'']; exact hb3
                clear hw' hne d0 d1 d2 d3 d4 f0 f1 f2 f3 f4
                replace hbel := hide (bmore hbel.out b10)
                go_wp2
                go_roundw
                case rel => exact ⟨i + 1, by omega, by go_num, hbel⟩
                case measure => simp [intOf]; omega
              · have hbW : Hid (Below w9.heap.size w9 (((((w5.setCell ⟨w9.heap.size, 0, none⟩ (.int .i64 S)).setCell ⟨w9.heap.size, 1, none⟩ (.int .i64 K)).setCell ⟨w9.heap.size, 2, none⟩ (.int .u64 T)).setCell ⟨w9.heap.size, 3, none⟩ (.int .u64 V)).setCell ⟨w9.heap.size, 4, none⟩ (.int .i64 X))) := hide (hSt.out w5 (.int .i64 S) (.int .i64 K) (.int .u64 T) (.int .u64 V) (.int .i64 X) hb5)
                have hvz5 := hide (hvz9.out.keep hbW.out)
                have V_x : Hid (Vi (((((w5.setCell ⟨w9.heap.size, 0, none⟩ (.int .i64 S)).setCell ⟨w9.heap.size, 1, none⟩ (.int .i64 K)).setCell ⟨w9.heap.size, 2, none⟩ (.int .u64 T)).setCell ⟨w9.heap.size, 3, none⟩ (.int .u64 V)).setCell ⟨w9.heap.size, 4, none⟩ (.int .i64 X)) w9.heap.size 0 S K T V X) := hide ((VX5.out.put S K T V X).1)
                replace hbel := hide (bmore bA.out hbW.out)
                clear cG HK hAl hbz b5 hb5 bA hvz9 b9 hSt vxD vxE hbW
                have f0 : ∀ p : Kp (((((w5.setCell ⟨w9.heap.size, 0, none⟩ (.int .i64 S)).setCell ⟨w9.heap.size, 1, none⟩ (.int .i64 K)).setCell ⟨w9.heap.size, 2, none⟩ (.int .u64 T)).setCell ⟨w9.heap.size, 3, none⟩ (.int .u64 V)).setCell ⟨w9.heap.size, 4, none⟩ (.int .i64 X)), p.W.cell? ⟨b0, off + i * 5, none⟩ = some (.int .i64 S) := fun p => (hvz5.out.keep p.h).1
                have f1 : ∀ p : Kp (((((w5.setCell ⟨w9.heap.size, 0, none⟩ (.int .i64 S)).setCell ⟨w9.heap.size, 1, none⟩ (.int .i64 K)).setCell ⟨w9.heap.size, 2, none⟩ (.int .u64 T)).setCell ⟨w9.heap.size, 3, none⟩ (.int .u64 V)).setCell ⟨w9.heap.size, 4, none⟩ (.int .i64 X)), p.W.cell? ⟨b0, off + i * 5 + 1, none⟩ = some (.int .i64 K) := fun p => (hvz5.out.keep p.h).2.1
                have f2 : ∀ p : Kp (((((w5.setCell ⟨w9.heap.size, 0, none⟩ (.int .i64 S)).setCell ⟨w9.heap.size, 1, none⟩ (.int .i64 K)).setCell ⟨w9.heap.size, 2, none⟩ (.int .u64 T)).setCell ⟨w9.heap.size, 3, none⟩ (.int .u64 V)).setCell ⟨w9.heap.size, 4, none⟩ (.int .i64 X)), p.W.cell? ⟨b0, off + i * 5 + 2, none⟩ = some (.int .u64 T) := fun p => (hvz5.out.keep p.h).2.2.1
                have f3 : ∀ p : Kp (((((w5.setCell ⟨w9.heap.size, 0, none⟩ (.int .i64 S)).setCell ⟨w9.heap.size, 1, none⟩ (.int .i64 K)).setCell ⟨w9.heap.size, 2, none⟩ (.int .u64 T)).setCell ⟨w9.heap.size, 3, none⟩ (.int .u64 V)).setCell ⟨w9.heap.size, 4, none⟩ (.int .i64 X)), p.W.cell? ⟨b0, off + i * 5 + 3, none⟩ = some (.int .u64 V) := fun p => (hvz5.out.keep p.h).2.2.2.1
                have f4 : ∀ p : Kp (((((w5.setCell ⟨w9.heap.size, 0, none⟩ (.int .i64 S)).setCell ⟨w9.heap.size, 1, none⟩ (.int .i64 K)).setCell ⟨w9.heap.size, 2, none⟩ (.int .u64 T)).setCell ⟨w9.heap.size, 3, none⟩ (.int .u64 V)).setCell ⟨w9.heap.size, 4, none⟩ (.int .i64 X)), p.W.cell? ⟨b0, off + i * 5 + 4, none⟩ = some (.int .i64 X) := fun p => (hvz5.out.keep p.h).2.2.2.2
                have d0 : ∀ p : Kp (((((w5.setCell ⟨w9.heap.size, 0, none⟩ (.int .i64 S)).setCell ⟨w9.heap.size, 1, none⟩ (.int .i64 K)).setCell ⟨w9.heap.size, 2, none⟩ (.int .u64 T)).setCell ⟨w9.heap.size, 3, none⟩ (.int .u64 V)).setCell ⟨w9.heap.size, 4, none⟩ (.int .i64 X)), p.W.cell? ⟨w9.heap.size, 0, none⟩ = some (.int .i64 S) := fun p => (V_x.out.keep p.h).1
                have d1 : ∀ p : Kp (((((w5.setCell ⟨w9.heap.size, 0, none⟩ (.int .i64 S)).setCell ⟨w9.heap.size, 1, none⟩ (.int .i64 K)).setCell ⟨w9.heap.size, 2, none⟩ (.int .u64 T)).setCell ⟨w9.heap.size, 3, none⟩ (.int .u64 V)).setCell ⟨w9.heap.size, 4, none⟩ (.int .i64 X)), p.W.cell? ⟨w9.heap.size, 1, none⟩ = some (.int .i64 K) := fun p => (V_x.out.keep p.h).2.1
                have d2 : ∀ p : Kp (((((w5.setCell ⟨w9.heap.size, 0, none⟩ (.int .i64 S)).setCell ⟨w9.heap.size, 1, none⟩ (.int .i64 K)).setCell ⟨w9.heap.size, 2, none⟩ (.int .u64 T)).setCell ⟨w9.heap.size, 3, none⟩ (.int .u64 V)).setCell ⟨w9.heap.size, 4, none⟩ (.int .i64 X)), p.W.cell? ⟨w9.heap.size, 2, none⟩ = some (.int .u64 T) := fun p => (V_x.out.keep p.h).2.2.1
                have d3 : ∀ p : Kp (((((w5.setCell ⟨w9.heap.size, 0, none⟩ (.int .i64 S)).setCell ⟨w9.heap.size, 1, none⟩ (.int .i64 K)).setCell ⟨w9.heap.size, 2, none⟩ (.int .u64 T)).setCell ⟨w9.heap.size, 3, none⟩ (.int .u64 V)).setCell ⟨w9.heap.size, 4, none⟩ (.int .i64 X)), p.W.cell? ⟨w9.heap.size, 3, none⟩ = some (.int .u64 V) := fun p => (V_x.out.keep p.h).2.2.2.1
                have d4 : ∀ p : Kp (((((w5.setCell ⟨w9.heap.size, 0, none⟩ (.int .i64 S)).setCell ⟨w9.heap.size, 1, none⟩ (.int .i64 K)).setCell ⟨w9.heap.size, 2, none⟩ (.int .u64 T)).setCell ⟨w9.heap.size, 3, none⟩ (.int .u64 V)).setCell ⟨w9.heap.size, 4, none⟩ (.int .i64 X)), p.W.cell? ⟨w9.heap.size, 4, none⟩ = some (.int .i64 X) := fun p => (V_x.out.keep p.h).2.2.2.2
                have hne : Nonempty (Kp (((((w5.setCell ⟨w9.heap.size, 0, none⟩ (.int .i64 S)).setCell ⟨w9.heap.size, 1, none⟩ (.int .i64 K)).setCell ⟨w9.heap.size, 2, none⟩ (.int .u64 T)).setCell ⟨w9.heap.size, 3, none⟩ (.int .u64 V)).setCell ⟨w9.heap.size, 4, none⟩ (.int .i64 X))) := ⟨⟨_, Below.refl _ _⟩⟩
                go_wp2_with fail
                refine wp_region_kept (by kernel_rfl) (by kernel_rfl) ?_
                repeat (first
                  | go_big_quiet_step (fail)
                  | fail)
                refine wpQuiet_nil ?_
                intro w10 hw'
                have b10 : Below (((((w5.setCell ⟨w9.heap.size, 0, none⟩ (.int .i64 S)).setCell ⟨w9.heap.size, 1, none⟩ (.int .i64 K)).setCell ⟨w9.heap.size, 2, none⟩ (.int .u64 T)).setCell ⟨w9.heap.size, 3, none⟩ (.int .u64 V)).setCell ⟨w9.heap.size, 4, none⟩ (.int .i64 X)).heap.size (((((w5.setCell ⟨w9.heap.size, 0, none⟩ (.int .i64 S)).setCell ⟨w9.heap.size, 1, none⟩ (.int .i64 K)).setCell ⟨w9.heap.size, 2, none⟩ (.int .u64 T)).setCell ⟨w9.heap.size, 3, none⟩ (.int .u64 V)).setCell ⟨w9.heap.size, 4, none⟩ (.int .i64 X)) w10 := by
                  obtain ⟨⟨w3', hb3⟩, hw''⟩ := hw'
                  rw [hw'']; exact hb3
                clear hw' hne d0 d1 d2 d3 d4 f0 f1 f2 f3 f4
                replace hbel := hide (bmore hbel.out b10)
                go_wp2
                go_roundw
                case rel => exact ⟨i + 1, by omega, by go_num, hbel⟩
                case measure => simp [intOf]; omega
            · have qf : (K == 2) = false := by simp [f]
              clear e f
              have hne : Nonempty (Kp wr) := ⟨⟨_, Below.refl _ _⟩⟩
              go_wp2_with fail
              refine wp_region_kept (by kernel_rfl) (by kernel_rfl) ?_
              repeat (first
                | go_big_quiet_step (fail)
                | fail)
              refine wpQuiet_nil ?_
              intro w9 hw'
              have b9 : Below wr.heap.size wr w9 := by
                obtain ⟨⟨w3', hb3⟩, hw''⟩ := hw'
                rw [hw'']; exact hb3
              clear hw' hne d0 d1 d2 d3 d4 f0 f1 f2 f3 f4
              obtain ⟨gt, hgt⟩ : ∃ x, getL (ofL (l ++ [(⟨ss, 1, 0, D1, 0⟩ : It)])) S T = x := ⟨_, rfl⟩
              have HG := hide hgt
              clear hgt
              obtain ⟨gi, hgi⟩ : ∃ x, gt.getD it0 = x := ⟨_, rfl⟩
              obtain ⟨ob, hob⟩ : ∃ x, gt.isSome = x := ⟨_, rfl⟩
              have HGI := hide hgi
              have HOB := hide hob
              clear hgi hob
              obtain ⟨gS, gK, gT, gV, gX⟩ := gi
              have bA := hide (bmore hbel.out b9)
              have hvz9 := hide (hvz.out.keep b9)
              have cG : Hid (∀ W, Below w9.heap.size w9 W → Calls Try.prog 12 #[.slice a_a n_a c_a, .int .i64 S, .int .u64 T] W (fun e w' => e = .returned (.tuple #[.agg #[.int .i64 gS, .int .i64 gK, .int .u64 gT, .int .u64 gV, .int .i64 gX], .bool ob]) ∧ Below W.heap.size W w')) := hide fun W hW => by
                have := get_any a_a n_a c_a _ S T W (HA1.out W (bmore bA.out hW)) (by omega)
                rw [HG.out, HGI.out, HOB.out] at this
                exact this
              have HK : Hid (∀ W, Below w9.heap.size w9 W → (Below w9.heap.size w9 W ∧ W.cell? ⟨b0, off + i * 5, none⟩ = some (.int .i64 S) ∧ W.cell? ⟨b0, off + i * 5 + 2, none⟩ = some (.int .u64 T))) := hide fun W hW => ⟨hW, (hvz9.out.keep hW).1, (hvz9.out.keep hW).2.2.1⟩
              have hAl : Hid (∀ W o, Below w9.heap.size w9 W → Below w9.heap.size w9 (W.alloc o)) := hide fun W o h => h.alloc h.size o
              have hbz : Below w9.heap.size w9 w9 := Below.refl _ _
              have hSt : Hid (∀ (W : World) (a b c d e : Value), Below w9.heap.size w9 W → Below w9.heap.size w9 (((((W.setCell ⟨w9.heap.size, 0, none⟩ a).setCell ⟨w9.heap.size, 1, none⟩ b).setCell ⟨w9.heap.size, 2, none⟩ c).setCell ⟨w9.heap.size, 3, none⟩ d).setCell ⟨w9.heap.size, 4, none⟩ e)) := hide fun W a b c d e h => ((((h.setCell (p := ⟨w9.heap.size, 0, none⟩) (Nat.le_refl _) a).setCell (p := ⟨w9.heap.size, 1, none⟩) (Nat.le_refl _) b).setCell (p := ⟨w9.heap.size, 2, none⟩) (Nat.le_refl _) c).setCell (p := ⟨w9.heap.size, 3, none⟩) (Nat.le_refl _) d).setCell (p := ⟨w9.heap.size, 4, none⟩) (Nat.le_refl _) e
              have vxD := hide ((vx_new w9 0 0 0 0 0).keep ((Below.refl _ _).drew))
              have vxE := hide (vx_new w9 0 0 0 0 0)
              go_wp2_with fail
              go_region_held_law (fun W => Below w9.heap.size w9 W ∧ W.cell? ⟨b0, off + i * 5, none⟩ = some (.int .i64 S) ∧ W.cell? ⟨b0, off + i * 5 + 2, none⟩ = some (.int .u64 T))
                (first
                | with_reducible exact HK.out _ (by assumption)
                | with_reducible exact HK.out _ (Below.drew (by assumption))
                | with_reducible exact HK.out _ (hAl.out _ _ (by assumption))
                | with_reducible exact HK.out _ (Below.drew (hAl.out _ _ (by assumption)))
                | with_reducible exact HK.out _ (hSt.out _ _ _ _ _ _ (by assumption)))
                (first
                | (go_at_call 12; refine (cG.out _ (And.left (by assumption))).mono ?_; rintro e w5 ⟨rfl, b5⟩; have hb5 : Below w9.heap.size w9 w5 := bmore (And.left (by assumption)) b5; first | (have hq : Below (World.drew (w9.alloc (Obj.cells #[Value.int IntKind.i64 0, Value.int IntKind.i64 0, Value.int IntKind.u64 0, Value.int IntKind.u64 0, Value.int IntKind.i64 0] 26))).heap.size (World.drew (w9.alloc (Obj.cells #[Value.int IntKind.i64 0, Value.int IntKind.i64 0, Value.int IntKind.u64 0, Value.int IntKind.u64 0, Value.int IntKind.i64 0] 26))) w5 := (by with_reducible assumption); have VX5 := hide (vxD.out.keep hq); obtain ⟨⟨ya0, ya1, ya2, ya3, ya4⟩, za0, za1, za2, za3, za4⟩ := vxs VX5.out) | (have hq : Below (w9.alloc (Obj.cells #[Value.int IntKind.i64 0, Value.int IntKind.i64 0, Value.int IntKind.u64 0, Value.int IntKind.u64 0, Value.int IntKind.i64 0] 26)).heap.size (w9.alloc (Obj.cells #[Value.int IntKind.i64 0, Value.int IntKind.i64 0, Value.int IntKind.u64 0, Value.int IntKind.u64 0, Value.int IntKind.i64 0] 26)) w5 := (by with_reducible assumption); have VX5 := hide (vxE.out.keep hq); obtain ⟨⟨ya0, ya1, ya2, ya3, ya4⟩, za0, za1, za2, za3, za4⟩ := vxs VX5.out) | skip))
              · have hbW : Hid (Below w9.heap.size w9 (w5.alloc (Obj.cells #[Value.int IntKind.i64 gS, Value.int IntKind.i64 gK, Value.int IntKind.u64 gT, Value.int IntKind.u64 gV, Value.int IntKind.i64 gX] 26))) := hide (hAl.out _ (Obj.cells #[Value.int IntKind.i64 gS, Value.int IntKind.i64 gK, Value.int IntKind.u64 gT, Value.int IntKind.u64 gV, Value.int IntKind.i64 gX] 26) hb5)
                have hvz5 := hide (hvz9.out.keep hbW.out)
                have V_x : Hid (Vi (w5.alloc (Obj.cells #[Value.int IntKind.i64 gS, Value.int IntKind.i64 gK, Value.int IntKind.u64 gT, Value.int IntKind.u64 gV, Value.int IntKind.i64 gX] 26)) w5.heap.size 0 gS gK gT gV gX) := hide (vi_new w5 gS gK gT gV gX)
                replace hbel := hide (bmore bA.out hbW.out)
                clear cG HK hAl hbz b5 hb5 bA hvz9 b9 hSt vxD vxE hbW
                have f0 : ∀ p : Kp (w5.alloc (Obj.cells #[Value.int IntKind.i64 gS, Value.int IntKind.i64 gK, Value.int IntKind.u64 gT, Value.int IntKind.u64 gV, Value.int IntKind.i64 gX] 26)), p.W.cell? ⟨b0, off + i * 5, none⟩ = some (.int .i64 S) := fun p => (hvz5.out.keep p.h).1
                have f1 : ∀ p : Kp (w5.alloc (Obj.cells #[Value.int IntKind.i64 gS, Value.int IntKind.i64 gK, Value.int IntKind.u64 gT, Value.int IntKind.u64 gV, Value.int IntKind.i64 gX] 26)), p.W.cell? ⟨b0, off + i * 5 + 1, none⟩ = some (.int .i64 K) := fun p => (hvz5.out.keep p.h).2.1
                have f2 : ∀ p : Kp (w5.alloc (Obj.cells #[Value.int IntKind.i64 gS, Value.int IntKind.i64 gK, Value.int IntKind.u64 gT, Value.int IntKind.u64 gV, Value.int IntKind.i64 gX] 26)), p.W.cell? ⟨b0, off + i * 5 + 2, none⟩ = some (.int .u64 T) := fun p => (hvz5.out.keep p.h).2.2.1
                have f3 : ∀ p : Kp (w5.alloc (Obj.cells #[Value.int IntKind.i64 gS, Value.int IntKind.i64 gK, Value.int IntKind.u64 gT, Value.int IntKind.u64 gV, Value.int IntKind.i64 gX] 26)), p.W.cell? ⟨b0, off + i * 5 + 3, none⟩ = some (.int .u64 V) := fun p => (hvz5.out.keep p.h).2.2.2.1
                have f4 : ∀ p : Kp (w5.alloc (Obj.cells #[Value.int IntKind.i64 gS, Value.int IntKind.i64 gK, Value.int IntKind.u64 gT, Value.int IntKind.u64 gV, Value.int IntKind.i64 gX] 26)), p.W.cell? ⟨b0, off + i * 5 + 4, none⟩ = some (.int .i64 X) := fun p => (hvz5.out.keep p.h).2.2.2.2
                have d0 : ∀ p : Kp (w5.alloc (Obj.cells #[Value.int IntKind.i64 gS, Value.int IntKind.i64 gK, Value.int IntKind.u64 gT, Value.int IntKind.u64 gV, Value.int IntKind.i64 gX] 26)), p.W.cell? ⟨w5.heap.size, 0, none⟩ = some (.int .i64 gS) := fun p => (V_x.out.keep p.h).1
                have d1 : ∀ p : Kp (w5.alloc (Obj.cells #[Value.int IntKind.i64 gS, Value.int IntKind.i64 gK, Value.int IntKind.u64 gT, Value.int IntKind.u64 gV, Value.int IntKind.i64 gX] 26)), p.W.cell? ⟨w5.heap.size, 1, none⟩ = some (.int .i64 gK) := fun p => (V_x.out.keep p.h).2.1
                have d2 : ∀ p : Kp (w5.alloc (Obj.cells #[Value.int IntKind.i64 gS, Value.int IntKind.i64 gK, Value.int IntKind.u64 gT, Value.int IntKind.u64 gV, Value.int IntKind.i64 gX] 26)), p.W.cell? ⟨w5.heap.size, 2, none⟩ = some (.int .u64 gT) := fun p => (V_x.out.keep p.h).2.2.1
                have d3 : ∀ p : Kp (w5.alloc (Obj.cells #[Value.int IntKind.i64 gS, Value.int IntKind.i64 gK, Value.int IntKind.u64 gT, Value.int IntKind.u64 gV, Value.int IntKind.i64 gX] 26)), p.W.cell? ⟨w5.heap.size, 3, none⟩ = some (.int .u64 gV) := fun p => (V_x.out.keep p.h).2.2.2.1
                have d4 : ∀ p : Kp (w5.alloc (Obj.cells #[Value.int IntKind.i64 gS, Value.int IntKind.i64 gK, Value.int IntKind.u64 gT, Value.int IntKind.u64 gV, Value.int IntKind.i64 gX] 26)), p.W.cell? ⟨w5.heap.size, 4, none⟩ = some (.int .i64 gX) := fun p => (V_x.out.keep p.h).2.2.2.2
                have hne : Nonempty (Kp (w5.alloc (Obj.cells #[Value.int IntKind.i64 gS, Value.int IntKind.i64 gK, Value.int IntKind.u64 gT, Value.int IntKind.u64 gV, Value.int IntKind.i64 gX] 26))) := ⟨⟨_, Below.refl _ _⟩⟩
                go_wp2_with fail
                refine wp_region_kept (by kernel_rfl) (by kernel_rfl) ?_
                repeat (first
                  | go_big_quiet_step (fail)
                  | fail)
                refine wpQuiet_nil ?_
                intro w10 hw'
                have b10 : Below (w5.alloc (Obj.cells #[Value.int IntKind.i64 gS, Value.int IntKind.i64 gK, Value.int IntKind.u64 gT, Value.int IntKind.u64 gV, Value.int IntKind.i64 gX] 26)).heap.size (w5.alloc (Obj.cells #[Value.int IntKind.i64 gS, Value.int IntKind.i64 gK, Value.int IntKind.u64 gT, Value.int IntKind.u64 gV, Value.int IntKind.i64 gX] 26)) w10 := by
                  obtain ⟨⟨w3', hb3⟩, hw''⟩ := hw'
                  rw [hw'']; exact hb3
                clear hw' hne d0 d1 d2 d3 d4 f0 f1 f2 f3 f4
                replace hbel := hide (bmore hbel.out b10)
                go_wp2
                go_roundw
                case rel => exact ⟨i + 1, by omega, by go_num, hbel⟩
                case measure => simp [intOf]; omega
              · have hbW : Hid (Below w9.heap.size w9 (((((w5.setCell ⟨w9.heap.size, 0, none⟩ (.int .i64 gS)).setCell ⟨w9.heap.size, 1, none⟩ (.int .i64 gK)).setCell ⟨w9.heap.size, 2, none⟩ (.int .u64 gT)).setCell ⟨w9.heap.size, 3, none⟩ (.int .u64 gV)).setCell ⟨w9.heap.size, 4, none⟩ (.int .i64 gX))) := hide (hSt.out w5 (.int .i64 gS) (.int .i64 gK) (.int .u64 gT) (.int .u64 gV) (.int .i64 gX) hb5)
                have hvz5 := hide (hvz9.out.keep hbW.out)
                have V_x : Hid (Vi (((((w5.setCell ⟨w9.heap.size, 0, none⟩ (.int .i64 gS)).setCell ⟨w9.heap.size, 1, none⟩ (.int .i64 gK)).setCell ⟨w9.heap.size, 2, none⟩ (.int .u64 gT)).setCell ⟨w9.heap.size, 3, none⟩ (.int .u64 gV)).setCell ⟨w9.heap.size, 4, none⟩ (.int .i64 gX)) w9.heap.size 0 gS gK gT gV gX) := hide ((VX5.out.put gS gK gT gV gX).1)
                replace hbel := hide (bmore bA.out hbW.out)
                clear cG HK hAl hbz b5 hb5 bA hvz9 b9 hSt vxD vxE hbW
                have f0 : ∀ p : Kp (((((w5.setCell ⟨w9.heap.size, 0, none⟩ (.int .i64 gS)).setCell ⟨w9.heap.size, 1, none⟩ (.int .i64 gK)).setCell ⟨w9.heap.size, 2, none⟩ (.int .u64 gT)).setCell ⟨w9.heap.size, 3, none⟩ (.int .u64 gV)).setCell ⟨w9.heap.size, 4, none⟩ (.int .i64 gX)), p.W.cell? ⟨b0, off + i * 5, none⟩ = some (.int .i64 S) := fun p => (hvz5.out.keep p.h).1
                have f1 : ∀ p : Kp (((((w5.setCell ⟨w9.heap.size, 0, none⟩ (.int .i64 gS)).setCell ⟨w9.heap.size, 1, none⟩ (.int .i64 gK)).setCell ⟨w9.heap.size, 2, none⟩ (.int .u64 gT)).setCell ⟨w9.heap.size, 3, none⟩ (.int .u64 gV)).setCell ⟨w9.heap.size, 4, none⟩ (.int .i64 gX)), p.W.cell? ⟨b0, off + i * 5 + 1, none⟩ = some (.int .i64 K) := fun p => (hvz5.out.keep p.h).2.1
                have f2 : ∀ p : Kp (((((w5.setCell ⟨w9.heap.size, 0, none⟩ (.int .i64 gS)).setCell ⟨w9.heap.size, 1, none⟩ (.int .i64 gK)).setCell ⟨w9.heap.size, 2, none⟩ (.int .u64 gT)).setCell ⟨w9.heap.size, 3, none⟩ (.int .u64 gV)).setCell ⟨w9.heap.size, 4, none⟩ (.int .i64 gX)), p.W.cell? ⟨b0, off + i * 5 + 2, none⟩ = some (.int .u64 T) := fun p => (hvz5.out.keep p.h).2.2.1
                have f3 : ∀ p : Kp (((((w5.setCell ⟨w9.heap.size, 0, none⟩ (.int .i64 gS)).setCell ⟨w9.heap.size, 1, none⟩ (.int .i64 gK)).setCell ⟨w9.heap.size, 2, none⟩ (.int .u64 gT)).setCell ⟨w9.heap.size, 3, none⟩ (.int .u64 gV)).setCell ⟨w9.heap.size, 4, none⟩ (.int .i64 gX)), p.W.cell? ⟨b0, off + i * 5 + 3, none⟩ = some (.int .u64 V) := fun p => (hvz5.out.keep p.h).2.2.2.1
                have f4 : ∀ p : Kp (((((w5.setCell ⟨w9.heap.size, 0, none⟩ (.int .i64 gS)).setCell ⟨w9.heap.size, 1, none⟩ (.int .i64 gK)).setCell ⟨w9.heap.size, 2, none⟩ (.int .u64 gT)).setCell ⟨w9.heap.size, 3, none⟩ (.int .u64 gV)).setCell ⟨w9.heap.size, 4, none⟩ (.int .i64 gX)), p.W.cell? ⟨b0, off + i * 5 + 4, none⟩ = some (.int .i64 X) := fun p => (hvz5.out.keep p.h).2.2.2.2
                have d0 : ∀ p : Kp (((((w5.setCell ⟨w9.heap.size, 0, none⟩ (.int .i64 gS)).setCell ⟨w9.heap.size, 1, none⟩ (.int .i64 gK)).setCell ⟨w9.heap.size, 2, none⟩ (.int .u64 gT)).setCell ⟨w9.heap.size, 3, none⟩ (.int .u64 gV)).setCell ⟨w9.heap.size, 4, none⟩ (.int .i64 gX)), p.W.cell? ⟨w9.heap.size, 0, none⟩ = some (.int .i64 gS) := fun p => (V_x.out.keep p.h).1
                have d1 : ∀ p : Kp (((((w5.setCell ⟨w9.heap.size, 0, none⟩ (.int .i64 gS)).setCell ⟨w9.heap.size, 1, none⟩ (.int .i64 gK)).setCell ⟨w9.heap.size, 2, none⟩ (.int .u64 gT)).setCell ⟨w9.heap.size, 3, none⟩ (.int .u64 gV)).setCell ⟨w9.heap.size, 4, none⟩ (.int .i64 gX)), p.W.cell? ⟨w9.heap.size, 1, none⟩ = some (.int .i64 gK) := fun p => (V_x.out.keep p.h).2.1
                have d2 : ∀ p : Kp (((((w5.setCell ⟨w9.heap.size, 0, none⟩ (.int .i64 gS)).setCell ⟨w9.heap.size, 1, none⟩ (.int .i64 gK)).setCell ⟨w9.heap.size, 2, none⟩ (.int .u64 gT)).setCell ⟨w9.heap.size, 3, none⟩ (.int .u64 gV)).setCell ⟨w9.heap.size, 4, none⟩ (.int .i64 gX)), p.W.cell? ⟨w9.heap.size, 2, none⟩ = some (.int .u64 gT) := fun p => (V_x.out.keep p.h).2.2.1
                have d3 : ∀ p : Kp (((((w5.setCell ⟨w9.heap.size, 0, none⟩ (.int .i64 gS)).setCell ⟨w9.heap.size, 1, none⟩ (.int .i64 gK)).setCell ⟨w9.heap.size, 2, none⟩ (.int .u64 gT)).setCell ⟨w9.heap.size, 3, none⟩ (.int .u64 gV)).setCell ⟨w9.heap.size, 4, none⟩ (.int .i64 gX)), p.W.cell? ⟨w9.heap.size, 3, none⟩ = some (.int .u64 gV) := fun p => (V_x.out.keep p.h).2.2.2.1
                have d4 : ∀ p : Kp (((((w5.setCell ⟨w9.heap.size, 0, none⟩ (.int .i64 gS)).setCell ⟨w9.heap.size, 1, none⟩ (.int .i64 gK)).setCell ⟨w9.heap.size, 2, none⟩ (.int .u64 gT)).setCell ⟨w9.heap.size, 3, none⟩ (.int .u64 gV)).setCell ⟨w9.heap.size, 4, none⟩ (.int .i64 gX)), p.W.cell? ⟨w9.heap.size, 4, none⟩ = some (.int .i64 gX) := fun p => (V_x.out.keep p.h).2.2.2.2
                have hne : Nonempty (Kp (((((w5.setCell ⟨w9.heap.size, 0, none⟩ (.int .i64 gS)).setCell ⟨w9.heap.size, 1, none⟩ (.int .i64 gK)).setCell ⟨w9.heap.size, 2, none⟩ (.int .u64 gT)).setCell ⟨w9.heap.size, 3, none⟩ (.int .u64 gV)).setCell ⟨w9.heap.size, 4, none⟩ (.int .i64 gX))) := ⟨⟨_, Below.refl _ _⟩⟩
                go_wp2_with fail
                refine wp_region_kept (by kernel_rfl) (by kernel_rfl) ?_
                repeat (first
                  | go_big_quiet_step (fail)
                  | fail)
                refine wpQuiet_nil ?_
                intro w10 hw'
                have b10 : Below (((((w5.setCell ⟨w9.heap.size, 0, none⟩ (.int .i64 gS)).setCell ⟨w9.heap.size, 1, none⟩ (.int .i64 gK)).setCell ⟨w9.heap.size, 2, none⟩ (.int .u64 gT)).setCell ⟨w9.heap.size, 3, none⟩ (.int .u64 gV)).setCell ⟨w9.heap.size, 4, none⟩ (.int .i64 gX)).heap.size (((((w5.setCell ⟨w9.heap.size, 0, none⟩ (.int .i64 gS)).setCell ⟨w9.heap.size, 1, none⟩ (.int .i64 gK)).setCell ⟨w9.heap.size, 2, none⟩ (.int .u64 gT)).setCell ⟨w9.heap.size, 3, none⟩ (.int .u64 gV)).setCell ⟨w9.heap.size, 4, none⟩ (.int .i64 gX)) w10 := by
                  obtain ⟨⟨w3', hb3⟩, hw''⟩ := hw'
                  rw [hw'']; exact hb3
                clear hw' hne d0 d1 d2 d3 d4 f0 f1 f2 f3 f4
                replace hbel := hide (bmore hbel.out b10)
                go_wp2
                go_roundw
                case rel => exact ⟨i + 1, by omega, by go_num, hbel⟩
                case measure => simp [intOf]; omega
        · go_wp2_with fail
          refine (awake6_any _).mono ?_
          rintro e w9 ⟨rfl, b9⟩
          have HB := hide (bmore HZ1.out (bmore hbel.out b9))
          go_wp2
          go_ret
          exact ⟨rfl, HB.out⟩

end Go.Proofs.Ytckfgpcoingphab.Clep
