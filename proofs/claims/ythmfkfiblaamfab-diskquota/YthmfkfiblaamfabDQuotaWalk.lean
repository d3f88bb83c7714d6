/- Statement DiskQuota says true for any quota up to 500, any lengths: the walk over the translated program. -/
import Derived.Test.YthmfkfiblaamfabDQuota
namespace Go.Proofs.Ythmfkfiblaamfab.Clep
open Go.RowKit Go.Maps
set_option linter.unusedVariables false

def Var2 (w : World) (U : Nat) (x y : Int) : Prop := w.heap[U]? = some (.cells #[.int .i64 x, .int .i64 y] 38 (0, 0))
theorem Held.setF {F : Nat → Prop} {w : World} {R : Nat} {S : St} (h : Held F w R S) {b : Nat} (hb : F b) (i : Nat) (v : Value) : Held F (w.setCell ⟨b, i, none⟩ v) R S := by
  obtain ⟨G, D, hF⟩ := h
  have hb0 := (hF b hb).2
  have T : Turn G.τ (fun n => n = 0) w (w.setCell ⟨b, i, none⟩ v) := turn_set v hb0
  obtain ⟨DD, f1, f2, f3⟩ := D.fm
  refine ⟨G, ⟨row_keep T D.row (by rw [D.tR]; omega), ⟨DD, map_keep T f1 (by rw [D.tf]; omega), f2, f3⟩, map_keep T D.nm (by rw [D.tn]; omega), map_keep T D.lm (by rw [D.tl]; omega), owns_keep T D.sc (fun g hg => by rw [D.ts g hg]; omega),
    fun f hf => file_keep T (D.files f hf) (by omega) (by omega), D.tR, D.tf, D.tn, D.tl, D.ts, fun i hi => D.top i (by simpa using hi), D.ok⟩, fun j hj => by simpa using hF j hj⟩
theorem wrap_low (x : Int) (h0 : 0 ≤ x) (h1 : x ≤ 1000000) : IntKind.i64.wrap x = x := by
  simp only [IntKind.wrap, IntKind.bits, IntKind.signed]
  simp
  omega
theorem Var2.cells {w : World} {U : Nat} {x y : Int} (h : Var2 w U x y) : w.cell? ⟨U, 0, none⟩ = some (.int .i64 x) ∧ w.cell? ⟨U, 1, none⟩ = some (.int .i64 y) ∧ (∀ i, w.frozen? ⟨U, i, none⟩ = false) ∧ U < w.heap.size :=
  ⟨cell_of h rfl, cell_of h rfl, fun i => frozen_of_row w U i _ _ h, (Array.getElem?_eq_some_iff.1 h).1⟩
theorem Var2.set0 {w : World} {U : Nat} {x y : Int} (h : Var2 w U x y) (v : Int) : Var2 (w.setCell ⟨U, 0, none⟩ (.int .i64 v)) U v y := by unfold Var2; rw [heap_setCell_same w U 0 _ _ _ h]; rfl
theorem Var2.set1 {w : World} {U : Nat} {x y : Int} (h : Var2 w U x y) (v : Int) : Var2 (w.setCell ⟨U, 1, none⟩ (.int .i64 v)) U x v := by unfold Var2; rw [heap_setCell_same w U 1 _ _ _ h]; rfl
theorem q2_drew {w2 W : World} {p p' : Addr} {v v' : Value} (h : Below w2.heap.size w2 W ∧ W.cell? p = some v ∧ W.cell? p' = some v') : Below w2.heap.size w2 W.drew ∧ W.drew.cell? p = some v ∧ W.drew.cell? p' = some v' := ⟨h.1.drew, h.2⟩
theorem q2_first {w2 : World} {p p' : Addr} {v v' : Value} (h : w2.cell? p = some v) (h' : w2.cell? p' = some v') : Below w2.heap.size w2 w2.drew ∧ w2.drew.cell? p = some v ∧ w2.drew.cell? p' = some v' := ⟨(Below.refl _ _).drew, h, h'⟩
theorem q2_step {w2 W W' : World} {p p' : Addr} {v v' : Value} (h : Below w2.heap.size w2 W ∧ W.cell? p = some v ∧ W.cell? p' = some v') (hb : Below W.heap.size W W') : Below w2.heap.size w2 W' ∧ W'.cell? p = some v ∧ W'.cell? p' = some v' :=
  ⟨h.1.trans (hb.mono h.1.size), by rw [hb.cell (World.block_lt_of_cell? W p h.2.1)]; exact h.2.1, by rw [hb.cell (World.block_lt_of_cell? W p' h.2.2)]; exact h.2.2⟩
theorem used_all {F : Nat → Prop} {R q c made na nb : Nat} {fs : List Fl} {sn : List Ch} {w : World} (h : Held F w R (qS q c made fs na nb sn)) (hm : c ≤ 1099511627776) (x y : Nat) (hx : flen fs na = x) (hy : flen fs nb = y) : ∀ W, Below w.heap.size w W →
    Calls Try.prog 19 #[.pointer (some ⟨R, 0, none⟩)] W fun e w' => e = .returned (.int .i64 ((x : Int) + (y : Int))) ∧ Below W.heap.size W w' := by
  intro W hW
  refine (used_h (h.same hW).1 hm).mono ?_
  rintro e w' ⟨he, _, hb⟩
  refine ⟨?_, hb⟩
  rw [he, q_used, hx, hy]
  rfl

set_option maxHeartbeats 2000000 in
set_option maxRecDepth 8000 in
theorem quota_any (n : Int) (ao : Option Addr) (la ca : Nat) (ka : List Int) (w : World) (ha : NumV (· < w.heap.size) w (.slice ao la ca) ka) :
    Calls Try.prog 4 #[.int .i64 n, .slice ao la ca] w fun e w' => e = .returned (.bool true) ∧ Below w.heap.size w w' := by
  have HA := hide ha.at.2
  obtain ⟨q, hq, hq2⟩ := andm n 511 (by omega)
  have hq' : bits .and .i64 n 511 = (q : Int) := hq
  have NW := hide (new_h q w (by omega) q rfl)
  clear ha hq
  go_enter Try.func4, Try.ntmps4
  go_wp2_with fail
  refine NW.out.mono ?_
  rintro e w0 ⟨R, rfl, H0, B0⟩
  have HH0 := hide H0
  have HB0 := hide B0
  clear H0 B0 NW
  go_wp2_with fail
  refine (create_h bA (q_new q) HH0.out (by show 0 < 1099511627776; omega) (by decide)).mono ?_
  rintro e w1 ⟨rfl, H1, S1⟩
  have HH1 := hide H1
  have HB1 := hide (HB0.out.trans (S1.below (fun i hi => hi)))
  clear H1 S1 HH0 HB0
  go_wp2_with fail
  refine (create_h bB (q_creB q 1 1 _ 1 _ rfl) HH1.out (by show 1 < 1099511627776; omega) (by decide)).mono ?_
  rintro e w2 ⟨rfl, H2, S2⟩
  have HH2 := hide (H2.more (.cells #[.int .i64 0, .int .i64 0] 38))
  have HB2 := hide (HB1.out.trans (S2.below (fun i hi => hi)))
  have HB2' := hide (HB2.out.alloc HB2.out.size (.cells #[.int .i64 0, .int .i64 0] 38))
  have HV2 := hide (show Var2 (w2.alloc (.cells #[.int .i64 0, .int .i64 0] 38)) w2.heap.size 0 0 from (MapKept.heap_alloc w2 _).1)
  clear H2 S2 HH1 HB1
  go_wp2_with fail
  generalize hU : w2.heap.size = U at *
  have HU := hide (show w.heap.size ≤ U by rw [← hU]; exact HB2.out.size)
  generalize w2.alloc (.cells #[.int .i64 0, .int .i64 0] 38) = w3 at *
  clear hU HB2
  go_loopw [7] (fun i wr => ∃ (k c made : Nat) (fs : List Fl) (na nb : Nat) (sn : List Ch), i = .int .i64 k ∧ k ≤ 40 ∧ Hid (c ≤ 2 + 2 * k) ∧ Hid (na ≠ nb) ∧ Hid (Held (fun i => i < w.heap.size ∨ i = U) wr R (qS q c made fs na nb sn)) ∧
    Hid (Var2 wr U (flen fs na : Nat) (flen fs nb : Nat)) ∧ Hid (flen fs na + flen fs nb ≤ q) ∧ Hid (Below w.heap.size w wr)) (fun i _ => 40 - (intOf i).toNat)
  case atStart => exact ⟨0, 2, 2, _, 1, 2, _, rfl, by omega, hide (by omega), hide (by omega), HH2, HV2, hide (by show 0 + 0 ≤ q; omega), HB2'⟩
  case round =>
    obtain ⟨k, c, made, fs, na, nb, sn, rfl, hk40, hcb, hnn, hH, hV, hsum, hB⟩ := hrel
    by_cases hc : k < la ∧ k < 40
    · obtain ⟨ab, aoff, rfl, hq, hcell, hlm⟩ := HA.out k hc.1
      have hi1 : (k : Int) < (la : Int) := by omega
      have hi2 : (k : Int) < 40 := by omega
      have hcr : wr.cell? ⟨ab, aoff + k, none⟩ = some (.int .i64 (ka.getD k 0)) := by rw [hB.out.cell (p := ⟨ab, aoff + k, none⟩) hq]; exact hcell
      generalize ka.getD k 0 = z at *
      obtain ⟨kk, hkk, hkk2⟩ := andm z 1 (by omega)
      have hkk' : bits .and .i64 z 1 = (kk : Int) := hkk
      obtain ⟨m, hm, hm2⟩ := andm (z / 2) 63 (by omega)
      have hm' : bits .and .i64 (z / 2) 63 = (m : Int) := hm
      obtain ⟨t, ht, ht2⟩ := andm (z / 256) 7 (by omega)
      have ht' : bits .and .i64 (z / 256) 7 = (t : Int) := ht
      clear hcell hc hkk hm ht
      go_wp2_with fail
      go_quiet (fail)
      have hb4 := drewN_below wr nq
      have HH4 := (hH.out.same hb4).1
      have HV4 : Var2 (wr.drewN nq) U (flen fs na : Nat) (flen fs nb : Nat) := hV.out
      have HB4 : Below w.heap.size w (wr.drewN nq) := hB.out.trans (hb4.mono hB.out.size)
      have hcr4 : (wr.drewN nq).cell? ⟨ab, aoff + k, none⟩ = some (.int .i64 z) := hcr
      generalize wr.drewN nq = w4 at *
      have hb5 := (Below.refl w4.heap.size w4).alloc (Nat.le_refl _) (.cells #[.string ⟨#[97]⟩, .string ⟨#[98]⟩] 9)
      have HH5 := hide (HH4.same hb5).1
      have HB5 := hide (HB4.trans (hb5.mono HB4.size))
      have HV5' : Var2 (w4.alloc (.cells #[.string ⟨#[97]⟩, .string ⟨#[98]⟩] 9)) U (flen fs na : Nat) (flen fs nb : Nat) := (hb5.block U HV4.cells.2.2.2).trans HV4
      have hcr5 : (w4.alloc (.cells #[.string ⟨#[97]⟩, .string ⟨#[98]⟩] 9)).cell? ⟨ab, aoff + k, none⟩ = some (.int .i64 z) := by
        rw [World.cell?_of_block (w := w4) (hb5.block ab (Nat.lt_of_lt_of_le hq HB4.size))]; exact hcr4
      obtain ⟨⟨fa, hfa, hna, hla2⟩, ⟨fb, hfb, hnb, hlb2⟩, h0, hma, hmb, hnew⟩ := q_facts HH5.out
      have hsm := hsum.out
      have hcbo := hcb.out
      generalize hua : flen fs na = ua at *
      generalize hub : flen fs nb = ub at *
      have HV5 := hide HV5'
      clear HH4 HV4 HB4 hb5 hb4 hcr4 HV5' hH hV hB hsum hcr
      have hua' := hide hua
      have wl1 := wrap_low ((ua : Int) + (ub : Int)) (by omega) (by omega)
      have wl2 := wrap_low ((ua : Int) + (m : Int) + (ub : Int)) (by omega) (by omega)
      have wl3 := wrap_low ((ua : Int) + ((ub : Int) + (m : Int))) (by omega) (by omega)
      have wl4 := wrap_low ((ua : Int) + (ub : Int) + (m : Int)) (by omega) (by omega)
      have hub' := hide hub
      rcases (show kk = 0 ∨ kk = 1 by omega) with rfl | rfl
      · by_cases htt : t = 0
        · have ht0 : ((t : Int) == 0) = true := by simp; omega
          go_wp2_with fail
          refine (remove_h bA (q_rmvA q c made fs na nb sn hfa) HH5.out (by show c < 1099511627776; omega) (by decide)).mono ?_
          rintro e w6 ⟨rfl, H6, S6⟩
          have CR := hide (create_h bA (q_creA q (c + 1) made fs nb _ h0) H6 (by show c + 1 < 1099511627776; omega) (by decide))
          have HB6 := hide (HB5.out.trans (S6.below (fun i hi => .inl hi)))
          have HV6 := hide (show Var2 w6 U ua ub from (S6.block U (.inr rfl)).trans HV5.out)
          clear H6 S6 HB5 HV5 HH5
          go_wp2_with fail
          refine CR.out.mono ?_
          rintro e w7 ⟨rfl, H7, S7⟩
          have HV7 : Var2 w7 U ua ub := (S7.block U (.inr rfl)).trans HV6.out
          have HH8 := hide (H7.setF (b := U) (.inr rfl) 0 (.int .i64 0))
          have HV8 := hide (HV7.set0 0)
          have HB8 := hide ((HB6.out.trans (S7.below (fun i hi => .inl hi))).setCell (p := ⟨U, 0, none⟩) HU.out (.int .i64 0))
          have cu := HV7.cells.1
          have fu := HV7.cells.2.2.1 0
          clear H7 S7 HV7 HB6 HV6 CR
          go_wp2
          go_roundw
          case rel =>
            refine ⟨k + 1, c + 2, made + 1, fs ++ [⟨made + 1, [], 0⟩], made + 1, nb, _, by go_num, by omega, hide (by omega), hide (by omega), HH8, ?_, ?_, HB8⟩
            · rw [flen_new fs made hnew, flen_snoc fs made nb hmb, hub]; exact HV8
            · rw [flen_new fs made hnew, flen_snoc fs made nb hmb, hub]; exact hide (by omega)
          case measure => simp [intOf]; omega
        · have ht0 : ((t : Int) == 0) = false := by simp; omega
          by_cases hfull : q < ua + (ub + 0) + m
          · have hap0 : appendS (qS q c made fs na nb sn) bA (byt k m) = (15, qS q (c + 1) made fs na nb sn) := by
              rw [q_appA q c made fs na nb sn _ hfa (by rw [byt_len, hla2]; omega), byt_len, hua, hub, if_pos hfull]
            have HLa := hide hua
            have HLb := hide hub
            go_wp2_with fail
            refine (bytes_h k m HH5.out (by omega) (by omega)).mono ?_
            rintro e w6 ⟨rfl, H6, S6⟩
            obtain ⟨c6, w7, hcv, hap⟩ := step_append bA (byt k m) (byt_range k m) hap0 H6 (by show c < 1099511627776; omega) (by decide) (by rw [byt_len]; omega) (fun i hi => by rcases hi with hi | rfl; exact Nat.lt_of_lt_of_le hi (Nat.le_trans HB5.out.size S6.size); exact Nat.lt_of_lt_of_le HV5.out.cells.2.2.2 S6.size)
            rw [byt_len] at hcv hap
            have HB6 := hide (HB5.out.trans (S6.below (fun i hi => .inl hi)))
            have HV6 := hide (show Var2 w6 U ua ub from (S6.block U (.inr rfl)).trans HV5.out)
            clear H6 S6 HB5 HV5 HH5 hap0
            go_wp2_with fail
            refine hap.out.mono ?_
            rintro e w8 ⟨he, H8, S8⟩
            obtain rfl : e = .returned (.int .i64 15) := he
            have HV8 : Var2 w8 U ua ub := (S8.block U (.inr rfl)).trans HV6.out
            have HB8 := hide (HB6.out.trans (S8.below (fun i hi => .inl hi)))
            have cu0 := HV8.cells.1
            have cu1 := HV8.cells.2.1
            have fu := HV8.cells.2.2.1 0
            have HH9 := hide H8
            have HV9 := hide HV8
            have cw0 := cu0
            have cw1 := cu1
            have HB9 := HB8
            have hgt : ((q : Int) < (ua : Int) + (ub : Int) + (m : Int)) := by omega
            clear H8 S8 HV8 HB6 HV6 hap hcv
            go_wp2_with fail
            generalize w8 = w9 at *
            have US := hide (used_all HH9.out (by omega) ua ub HLa.out HLb.out)
            clear cu0 cu1 fu
            go_region_held_law (fun W => Below w9.heap.size w9 W ∧ W.cell? ⟨U, 0, none⟩ = some (.int .i64 (ua : Int)) ∧ W.cell? ⟨U, 1, none⟩ = some (.int .i64 (ub : Int)))
              (first | exact q2_drew (by assumption) | exact q2_first (by assumption) (by assumption) | exact q2_step (by assumption) (by assumption))
              (first | (go_at_call 19; refine (US.out _ (And.left (by assumption))).mono ?_; rintro e w' ⟨rfl, hb'⟩))
            all_goals
              have hq9 : Below w9.heap.size w9 w' := And.left (by assumption)
              have HH10 := hide (HH9.out.same hq9).1
              have HV10 := hide (show Var2 w' U (ua : Int) (ub : Int) from (hq9.block U HV9.out.cells.2.2.2).trans HV9.out)
              have HB10 := hide (HB9.out.trans (hq9.mono HB9.out.size))
              clear hq9
              go_wp2
              go_roundw
              case rel => exact ⟨k + 1, c + 1, made, fs, na, nb, sn, by go_num, by omega, hide (by omega), hnn, HH10, by rw [HLa.out, HLb.out]; exact HV10, hide (by rw [HLa.out, HLb.out]; omega), HB10⟩
              case measure => simp [intOf]; omega
          · have hap0 : appendS (qS q c made fs na nb sn) bA (byt k m) = (0, qS q (c + 1) made (updF fs na (growF (byt k m))) na nb sn) := by
              rw [q_appA q c made fs na nb sn _ hfa (by rw [byt_len, hla2]; omega), byt_len, hua, hub, if_neg hfull, hna]
            have HLa := hide (show flen (updF fs na (growF (byt k m))) na = ua + m by rw [flen_upd fs na _ na hfa hna, if_pos rfl, byt_len, hua])
            have HLb := hide (show flen (updF fs na (growF (byt k m))) nb = ub by rw [flen_upd fs na _ nb hfb hnb, if_neg (fun e => hnn.out e.symm), hub])
            go_wp2_with fail
            refine (bytes_h k m HH5.out (by omega) (by omega)).mono ?_
            rintro e w6 ⟨rfl, H6, S6⟩
            obtain ⟨c6, w7, hcv, hap⟩ := step_append bA (byt k m) (byt_range k m) hap0 H6 (by show c < 1099511627776; omega) (by decide) (by rw [byt_len]; omega) (fun i hi => by rcases hi with hi | rfl; exact Nat.lt_of_lt_of_le hi (Nat.le_trans HB5.out.size S6.size); exact Nat.lt_of_lt_of_le HV5.out.cells.2.2.2 S6.size)
            rw [byt_len] at hcv hap
            have HB6 := hide (HB5.out.trans (S6.below (fun i hi => .inl hi)))
            have HV6 := hide (show Var2 w6 U ua ub from (S6.block U (.inr rfl)).trans HV5.out)
            clear H6 S6 HB5 HV5 HH5 hap0
            go_wp2_with fail
            refine hap.out.mono ?_
            rintro e w8 ⟨he, H8, S8⟩
            obtain rfl : e = .returned (.int .i64 0) := he
            have HV8 : Var2 w8 U ua ub := (S8.block U (.inr rfl)).trans HV6.out
            have HB8 := hide (HB6.out.trans (S8.below (fun i hi => .inl hi)))
            have cu0 := HV8.cells.1
            have cu1 := HV8.cells.2.1
            have fu := HV8.cells.2.2.1 0
            have HH9' := H8.setF (b := U) (.inr rfl) 0 (.int .i64 ((ua : Int) + (m : Int)))
            have HV9' := HV8.set0 ((ua : Int) + (m : Int))
            have HB9' := HB8.out.setCell (p := ⟨U, 0, none⟩) HU.out (.int .i64 ((ua : Int) + (m : Int)))
            have HH9 := hide HH9'
            have HV9 := hide HV9'
            have HB9 := hide HB9'
            have cw0 := HV9'.cells.1
            have cw1 := HV9'.cells.2.1
            have hgt : ¬ ((q : Int) < (ua : Int) + (ub : Int) + (m : Int)) := by omega
            clear H8 S8 HV8 HB6 HV6 hap hcv HH9' HV9' HB9'
            go_wp2_with fail
            generalize w8.setCell ⟨U, 0, none⟩ (.int .i64 ((ua : Int) + (m : Int))) = w9 at *
            have US := hide (used_all HH9.out (by omega) (ua + m) ub HLa.out HLb.out)
            clear cu0 cu1 fu
            go_region_held_law (fun W => Below w9.heap.size w9 W ∧ W.cell? ⟨U, 0, none⟩ = some (.int .i64 ((ua : Int) + (m : Int))) ∧ W.cell? ⟨U, 1, none⟩ = some (.int .i64 (ub : Int)))
              (first | exact q2_drew (by assumption) | exact q2_first (by assumption) (by assumption) | exact q2_step (by assumption) (by assumption))
              (first | (go_at_call 19; refine (US.out _ (And.left (by assumption))).mono ?_; rintro e w' ⟨rfl, hb'⟩))
            all_goals
              have hq9 : Below w9.heap.size w9 w' := And.left (by assumption)
              have HH10 := hide (HH9.out.same hq9).1
              have HV10 := hide (show Var2 w' U ((ua : Int) + (m : Int)) (ub : Int) from (hq9.block U HV9.out.cells.2.2.2).trans HV9.out)
              have HB10 := hide (HB9.out.trans (hq9.mono HB9.out.size))
              clear hq9
              go_wp2
              go_roundw
              case rel => exact ⟨k + 1, c + 1, made, (updF fs na (growF (byt k m))), na, nb, sn, by go_num, by omega, hide (by omega), hnn, HH10, by rw [HLa.out, HLb.out]; exact HV10, hide (by rw [HLa.out, HLb.out]; omega), HB10⟩
              case measure => simp [intOf]; omega
      · by_cases htt : t = 0
        · have ht0 : ((t : Int) == 0) = true := by simp; omega
          go_wp2_with fail
          refine (remove_h bB (q_rmvB q c made fs na nb sn hfb) HH5.out (by show c < 1099511627776; omega) (by decide)).mono ?_
          rintro e w6 ⟨rfl, H6, S6⟩
          have CR := hide (create_h bB (q_creB q (c + 1) made fs na _ h0) H6 (by show c + 1 < 1099511627776; omega) (by decide))
          have HB6 := hide (HB5.out.trans (S6.below (fun i hi => .inl hi)))
          have HV6 := hide (show Var2 w6 U ua ub from (S6.block U (.inr rfl)).trans HV5.out)
          clear H6 S6 HB5 HV5 HH5
          go_wp2_with fail
          refine CR.out.mono ?_
          rintro e w7 ⟨rfl, H7, S7⟩
          have HV7 : Var2 w7 U ua ub := (S7.block U (.inr rfl)).trans HV6.out
          have HH8 := hide (H7.setF (b := U) (.inr rfl) 1 (.int .i64 0))
          have HV8 := hide (HV7.set1 0)
          have HB8 := hide ((HB6.out.trans (S7.below (fun i hi => .inl hi))).setCell (p := ⟨U, 1, none⟩) HU.out (.int .i64 0))
          have cu := HV7.cells.2.1
          have fu := HV7.cells.2.2.1 1
          clear H7 S7 HV7 HB6 HV6 CR
          go_wp2
          go_roundw
          case rel =>
            refine ⟨k + 1, c + 2, made + 1, fs ++ [⟨made + 1, [], 0⟩], na, made + 1, _, by go_num, by omega, hide (by omega), hide (by omega), HH8, ?_, ?_, HB8⟩
            · rw [flen_new fs made hnew, flen_snoc fs made na hma, hua]; exact HV8
            · rw [flen_new fs made hnew, flen_snoc fs made na hma, hua]; exact hide (by omega)
          case measure => simp [intOf]; omega
        · have ht0 : ((t : Int) == 0) = false := by simp; omega
          by_cases hfull : q < ua + (ub + 0) + m
          · have hap0 : appendS (qS q c made fs na nb sn) bB (byt k m) = (15, qS q (c + 1) made fs na nb sn) := by
              rw [q_appB q c made fs na nb sn _ hfb (by rw [byt_len, hlb2]; omega), byt_len, hua, hub, if_pos hfull]
            have HLa := hide hua
            have HLb := hide hub
            go_wp2_with fail
            refine (bytes_h k m HH5.out (by omega) (by omega)).mono ?_
            rintro e w6 ⟨rfl, H6, S6⟩
            obtain ⟨c6, w7, hcv, hap⟩ := step_append bB (byt k m) (byt_range k m) hap0 H6 (by show c < 1099511627776; omega) (by decide) (by rw [byt_len]; omega) (fun i hi => by rcases hi with hi | rfl; exact Nat.lt_of_lt_of_le hi (Nat.le_trans HB5.out.size S6.size); exact Nat.lt_of_lt_of_le HV5.out.cells.2.2.2 S6.size)
            rw [byt_len] at hcv hap
            have HB6 := hide (HB5.out.trans (S6.below (fun i hi => .inl hi)))
            have HV6 := hide (show Var2 w6 U ua ub from (S6.block U (.inr rfl)).trans HV5.out)
            clear H6 S6 HB5 HV5 HH5 hap0
            go_wp2_with fail
            refine hap.out.mono ?_
            rintro e w8 ⟨he, H8, S8⟩
            obtain rfl : e = .returned (.int .i64 15) := he
            have HV8 : Var2 w8 U ua ub := (S8.block U (.inr rfl)).trans HV6.out
            have HB8 := hide (HB6.out.trans (S8.below (fun i hi => .inl hi)))
            have cu0 := HV8.cells.1
            have cu1 := HV8.cells.2.1
            have fu := HV8.cells.2.2.1 1
            have HH9 := hide H8
            have HV9 := hide HV8
            have cw0 := cu0
            have cw1 := cu1
            have HB9 := HB8
            have hgt : ((q : Int) < (ua : Int) + (ub : Int) + (m : Int)) := by omega
            clear H8 S8 HV8 HB6 HV6 hap hcv
            go_wp2_with fail
            generalize w8 = w9 at *
            have US := hide (used_all HH9.out (by omega) ua ub HLa.out HLb.out)
            clear cu0 cu1 fu
            go_region_held_law (fun W => Below w9.heap.size w9 W ∧ W.cell? ⟨U, 0, none⟩ = some (.int .i64 (ua : Int)) ∧ W.cell? ⟨U, 1, none⟩ = some (.int .i64 (ub : Int)))
              (first | exact q2_drew (by assumption) | exact q2_first (by assumption) (by assumption) | exact q2_step (by assumption) (by assumption))
              (first | (go_at_call 19; refine (US.out _ (And.left (by assumption))).mono ?_; rintro e w' ⟨rfl, hb'⟩))
            all_goals
              have hq9 : Below w9.heap.size w9 w' := And.left (by assumption)
              have HH10 := hide (HH9.out.same hq9).1
              have HV10 := hide (show Var2 w' U (ua : Int) (ub : Int) from (hq9.block U HV9.out.cells.2.2.2).trans HV9.out)
              have HB10 := hide (HB9.out.trans (hq9.mono HB9.out.size))
              clear hq9
              go_wp2
              go_roundw
              case rel => exact ⟨k + 1, c + 1, made, fs, na, nb, sn, by go_num, by omega, hide (by omega), hnn, HH10, by rw [HLa.out, HLb.out]; exact HV10, hide (by rw [HLa.out, HLb.out]; omega), HB10⟩
              case measure => simp [intOf]; omega
          · have hap0 : appendS (qS q c made fs na nb sn) bB (byt k m) = (0, qS q (c + 1) made (updF fs nb (growF (byt k m))) na nb sn) := by
              rw [q_appB q c made fs na nb sn _ hfb (by rw [byt_len, hlb2]; omega), byt_len, hua, hub, if_neg hfull, hnb]
            have HLa := hide (show flen (updF fs nb (growF (byt k m))) na = ua by rw [flen_upd fs nb _ na hfa hna, if_neg hnn.out, hua])
            have HLb := hide (show flen (updF fs nb (growF (byt k m))) nb = ub + m by rw [flen_upd fs nb _ nb hfb hnb, if_pos rfl, byt_len, hub])
            go_wp2_with fail
            refine (bytes_h k m HH5.out (by omega) (by omega)).mono ?_
            rintro e w6 ⟨rfl, H6, S6⟩
            obtain ⟨c6, w7, hcv, hap⟩ := step_append bB (byt k m) (byt_range k m) hap0 H6 (by show c < 1099511627776; omega) (by decide) (by rw [byt_len]; omega) (fun i hi => by rcases hi with hi | rfl; exact Nat.lt_of_lt_of_le hi (Nat.le_trans HB5.out.size S6.size); exact Nat.lt_of_lt_of_le HV5.out.cells.2.2.2 S6.size)
            rw [byt_len] at hcv hap
            have HB6 := hide (HB5.out.trans (S6.below (fun i hi => .inl hi)))
            have HV6 := hide (show Var2 w6 U ua ub from (S6.block U (.inr rfl)).trans HV5.out)
            clear H6 S6 HB5 HV5 HH5 hap0
            go_wp2_with fail
            refine hap.out.mono ?_
            rintro e w8 ⟨he, H8, S8⟩
            obtain rfl : e = .returned (.int .i64 0) := he
            have HV8 : Var2 w8 U ua ub := (S8.block U (.inr rfl)).trans HV6.out
            have HB8 := hide (HB6.out.trans (S8.below (fun i hi => .inl hi)))
            have cu0 := HV8.cells.1
            have cu1 := HV8.cells.2.1
            have fu := HV8.cells.2.2.1 1
            have HH9' := H8.setF (b := U) (.inr rfl) 1 (.int .i64 ((ub : Int) + (m : Int)))
            have HV9' := HV8.set1 ((ub : Int) + (m : Int))
            have HB9' := HB8.out.setCell (p := ⟨U, 1, none⟩) HU.out (.int .i64 ((ub : Int) + (m : Int)))
            have HH9 := hide HH9'
            have HV9 := hide HV9'
            have HB9 := hide HB9'
            have cw0 := HV9'.cells.1
            have cw1 := HV9'.cells.2.1
            have hgt : ¬ ((q : Int) < (ua : Int) + (ub : Int) + (m : Int)) := by omega
            clear H8 S8 HV8 HB6 HV6 hap hcv HH9' HV9' HB9'
            go_wp2_with fail
            generalize w8.setCell ⟨U, 1, none⟩ (.int .i64 ((ub : Int) + (m : Int))) = w9 at *
            have US := hide (used_all HH9.out (by omega) ua (ub + m) HLa.out HLb.out)
            clear cu0 cu1 fu
            go_region_held_law (fun W => Below w9.heap.size w9 W ∧ W.cell? ⟨U, 0, none⟩ = some (.int .i64 (ua : Int)) ∧ W.cell? ⟨U, 1, none⟩ = some (.int .i64 ((ub : Int) + (m : Int))))
              (first | exact q2_drew (by assumption) | exact q2_first (by assumption) (by assumption) | exact q2_step (by assumption) (by assumption))
              (first | (go_at_call 19; refine (US.out _ (And.left (by assumption))).mono ?_; rintro e w' ⟨rfl, hb'⟩))
            all_goals
              have hq9 : Below w9.heap.size w9 w' := And.left (by assumption)
              have HH10 := hide (HH9.out.same hq9).1
              have HV10 := hide (show Var2 w' U (ua : Int) ((ub : Int) + (m : Int)) from (hq9.block U HV9.out.cells.2.2.2).trans HV9.out)
              have HB10 := hide (HB9.out.trans (hq9.mono HB9.out.size))
              clear hq9
              go_wp2
              go_roundw
              case rel => exact ⟨k + 1, c + 1, made, (updF fs nb (growF (byt k m))), na, nb, sn, by go_num, by omega, hide (by omega), hnn, HH10, by rw [HLa.out, HLb.out]; exact HV10, hide (by rw [HLa.out, HLb.out]; omega), HB10⟩
              case measure => simp [intOf]; omega
    · have hx : (¬ ((k : Int) < (la : Int))) ∨ (((k : Int) < (la : Int)) ∧ ¬ ((k : Int) < 40)) := by omega
      have AW := hide (awake_any wr)
      clear hc HA
      rcases hx with hx | ⟨hx, hx2⟩
      all_goals
        go_wp2_with fail
        refine AW.out.mono ?_
        rintro e wz ⟨rfl, Bz⟩
        have HBz := hide (hB.out.trans (Bz.mono hB.out.size))
        clear Bz AW
        go_wp2
        go_ret
        exact ⟨rfl, HBz.out⟩

end Go.Proofs.Ythmfkfiblaamfab.Clep
