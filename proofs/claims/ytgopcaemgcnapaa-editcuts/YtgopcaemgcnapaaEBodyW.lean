/- What edit.bodyOf does when called (a walk over the translated program): for any Edit that may be. -/
import Derived.Test.YtgopcaemgcnapaaEBody
namespace Go.Proofs.Ytgopcaemgcnapaa.Clep
open Go.RowKit
set_option linter.unusedVariables false
set_option maxRecDepth 10000

theorem own_base9 {w : World} {B C : Nat} {v : Value} {zs : List Int} (h : Own w B v zs) (hc : C ≤ B) : Own w C v zs := by
  obtain ⟨hl, h | ⟨g, cap, cur, hv, hg, r⟩⟩ := h
  · exact ⟨hl, .inl h⟩
  · exact ⟨hl, .inr ⟨g, cap, cur, hv, Nat.le_trans hc hg, r⟩⟩
theorem own_keep9 {w w' : World} {B : Nat} {v : Value} {zs : List Int} (h : Own w B v zs) (hb : Below w.heap.size w w') : Own w' B v zs := by
  refine World.ownsRow.kept h (fgb_below hb none) ?_
  cases hv : v.ownBlock with
  | none => exact .inl rfl
  | some k => exact .inr (by simp)
theorem put_own (B : Nat) (v : Value) (zs : List Int) (w : World) (h : Own w B v zs) (hr : ByteL zs) (hl : zs.length ≤ 100000) (hB : B ≤ w.heap.size) (n : Int) (h0 : 0 ≤ n) (h1 : n ≤ 18446744073709551615) :
    Calls Try.prog 55 #[v, .int .u64 n] w fun e w' => ∃ v', e = .returned v' ∧ Own w' B v' (zs ++ pu n) ∧ Below w.heap.size w w' := by
  obtain ⟨ao, cap, rfl, _, hbs, _⟩ := own_bs h (range_of hr)
  exact (put_any ao zs.length cap zs w n h0 h1 (by omega) hbs).mono fun e w' ⟨v', he, ho, hb⟩ => ⟨v', he, own_base9 ho hB, hb⟩
theorem bytel_app {a b : List Int} (ha : ByteL a) (hb : ByteL b) : ByteL (a ++ b) := cat_range ha hb
theorem uz5 {w : World} {p : Nat} {x0 x1 x2 x3 x4 : Int} {T : TypeId} (h : Ek w p #[.int .u64 x0, .int .u64 x1, .int .u64 x2, .int .u64 x3, .int .u64 x4] T) : Uz w p [x0, x1, x2, x3, x4] := by
  intro i z hz
  match i, hz with
  | 0, hz => exact h.cell (by simpa using hz)
  | 1, hz => exact h.cell (by simpa using hz)
  | 2, hz => exact h.cell (by simpa using hz)
  | 3, hz => exact h.cell (by simpa using hz)
  | 4, hz => exact h.cell (by simpa using hz)
  | k + 5, hz => simp at hz
theorem rows_more {ns : List Int} {k : Nat} {z : Int} (h : ns[k]? = some z) : rows ns (k + 1) = rows ns k ++ pu z := by
  rw [rows_succ ns k (List.getElem?_eq_some_iff.1 h).1]
  simp [List.getD, h]

set_option maxHeartbeats 2000000 in
theorem bodyof_any (da : Option Addr) (dn dc : Nat) (aa : Option Addr) (an ac : Nat) (E : Ed) (w : World) (hd : Zs w da dn dc E.d) (ha : Fs w aa an ac E.a) (hm : emay E = 0) (hu : 0 ≤ E.fl ∧ 0 ≤ E.ct ∧ 0 ≤ E.at9 ∧ 0 ≤ E.ls) :
    Calls Try.prog 31 #[edV da dn dc aa an ac E] w fun e w' => ∃ v, e = .returned v ∧ Own w' w.heap.size v (ebd E) ∧ Below w.heap.size w w' := by
  have hld := hd.1
  have hla := ha.1
  have HD := hide (fun W (hW : Below w.heap.size w W) => hd.below hW (Nat.le_refl _))
  have HA := hide (fun W (hW : Below w.heap.size w W) => ha.below hW (Nat.le_refl _))
  have hp := emay_parts hm
  have HE := hide (show ebd E = li E.d ++ (pu (E.a.length : Int) ++ (fbs E.a ++ rest [E.lg, E.fl, E.ct, E.at9, E.ls] 0)) from rfl)
  generalize ebd E = R at *
  obtain ⟨d, a, lg, fl, ct, at9, ls⟩ := E
  unfold edV
  simp only at hld hla HD HA HE hp hu ⊢
  rw [hla] at HE
  obtain ⟨⟨hp1, hp2⟩, hp3, hp4, hp5, hp6, hp7, hp8, hp9⟩ := hp
  have hdn : dn ≤ 40 := by omega
  have han : an ≤ 40 := by omega
  have HP3 := hide hp3
  have HP4 := hide hp4
  have hrd : ByteL (li d) := li_range d (urange_of fun z hz => by have := hp3 z hz; omega) (by omega)
  have hlld := (li_len d (by omega)).2
  have HRD := hide hrd
  have hwlg : IntKind.u64.wrap lg = lg := by
    simp [IntKind.wrap, IntKind.bits, IntKind.signed]
    omega
  have hwan : IntKind.u64.wrap (an : Int) = (an : Int) := by
    simp [IntKind.wrap, IntKind.bits, IntKind.signed]
    omega
  clear hd ha hm hp3 hp4 hrd
  have A0 := (Below.refl w.heap.size w).alloc (Nat.le_refl _) (Obj.cells #[.slice da dn dc, .slice aa an ac, .int .i64 lg, .int .u64 fl, .int .u64 ct, .int .u64 at9, .int .u64 ls] 31)
  have HB0 := hide A0
  have hK := hide (show ∀ W, Below (w.heap.size + 1) (w.alloc (Obj.cells #[.slice da dn dc, .slice aa an ac, .int .i64 lg, .int .u64 fl, .int .u64 ct, .int .u64 at9, .int .u64 ls] 31)) W → Ek W w.heap.size #[.slice da dn dc, .slice aa an ac, .int .i64 lg, .int .u64 fl, .int .u64 ct, .int .u64 at9, .int .u64 ls] 31 from fun W hW => (ek_new w _ _).below hW (by omega))
  clear A0
  go_enter Try.func31, Try.ntmps31
  go_wp2_with fail
  generalize hwa : w.alloc (Obj.cells #[.slice da dn dc, .slice aa an ac, .int .i64 lg, .int .u64 fl, .int .u64 ct, .int .u64 at9, .int .u64 ls] 31) = wa at *
  have hsa : wa.heap.size = w.heap.size + 1 := by rw [← hwa]; simp
  clear hwa
  have HBW := hide (show ∀ W, Below (w.heap.size + 1) wa W → Below w.heap.size w W ∧ w.heap.size + 1 ≤ W.heap.size from fun W hW => ⟨HB0.out.trans (hW.mono (by omega)), by have := hW.size; omega⟩)
  go_loopw [3, 14] (fun v s wr => ∃ k : Nat, k ≤ dn ∧ s = .int .i64 k ∧ Hid (OwnU wr (w.heap.size + 1) v (d.take k)) ∧ Hid (Below (w.heap.size + 1) wa wr)) (fun _ s _ => dn - (intOf s).toNat)
  case atStart => exact ⟨0, by omega, rfl, hide (ownU_nil _ _), hide (Below.refl _ _)⟩
  case round =>
    obtain ⟨k, hk, rfl, hown, hbel⟩ := hrel
    by_cases hlt : k < dn
    · obtain ⟨z, b, off, hz, rfl, hc, hz1, hz2⟩ := zs_at (HD.out wr (HBW.out wr hbel.out).1) k hlt
      have hzr := HP3.out z (List.mem_of_getElem? hz)
      have hwz : IntKind.u64.wrap z = z := by
        simp [IntKind.wrap, IntKind.bits, IntKind.signed]
        omega
      have HT := hide (show d.take (k + 1) = d.take k ++ [z] from by rw [List.take_add_one, hz]; rfl)
      have HLT := hide (show (d.take k).length ≤ 100000 from by rw [List.length_take]; omega)
      have A1 := (Below.refl _ wr).alloc (Nat.le_refl _) (Obj.cells #[.int .u64 z] 24)
      have HO1 := hide (ownU_below hown.out A1)
      have HE1 := hide (ek_new wr #[.int .u64 z] 24)
      have HS1 := hide (Nat.le_trans (HBW.out wr hbel.out).2 A1.size)
      have HB1 := hide (hbel.out.trans (A1.mono (HBW.out wr hbel.out).2))
      clear hz hz1 hz2 A1
      go_wp2_with (first
        | (at_builtin; refine wpList_append_u rfl _ _ rfl (w.heap.size + 1) _ (d.take k) rfl HO1.out wr.heap.size z rfl HE1.out HLT.out HS1.out ?_; intro v2 w2 o2 g2 k2; have HO2 := hide o2; have HB2 := hide (HB1.out.grown g2 HS1.out k2); clear o2 g2 k2)
        | fail)
      go_roundw
      case rel => exact ⟨k + 1, by omega, by go_num, hide (by rw [HT.out]; exact HO2.out), HB2⟩
      case measure => simp [intOf]; omega
    · obtain rfl : k = dn := by omega
      have hown2 := hown.out
      rw [List.take_of_length_le (by omega)] at hown2
      obtain ⟨au, cu, hvu, hus⟩ := ownU_us hown2 (fun z hz => by have := HP3.out z hz; omega)
      rw [hld] at hvu hus
      subst hvu
      have HB1 := hide hbel.out
      have CL := hide (list_any none 0 0 [] au k cu d wr (by omega) (bs_nil wr) (by omega) hus)
      have HBB := hide (HBW.out wr hbel.out)
      clear hown hown2 hus hbel
      go_wp2_with fail
      refine CL.out.mono ?_
      rintro e w2 ⟨v2, rfl, ho2, hb2⟩
      rw [List.nil_append] at ho2
      have HB2 := hide (HB1.out.trans (hb2.mono HBB.out.2))
      have HO2 := hide (own_base9 ho2 HBB.out.2)
      have k1 : w2.cell? ⟨w.heap.size, 1, none⟩ = some (.slice aa an ac) := (hK.out w2 HB2.out).cell rfl
      have CP := hide (put_own (w.heap.size + 1) v2 (li d) w2 HO2.out HRD.out (by omega) (HBW.out w2 HB2.out).2 (an : Int) (by omega) (by omega))
      clear CL ho2 hb2 HB1 HBB
      go_wp2_with fail
      refine CP.out.mono ?_
      rintro e w3 ⟨v3, rfl, ho3, hb3⟩
      have HB3 := hide (HB2.out.trans (hb3.mono (HBW.out w2 HB2.out).2))
      have HO3 := hide ho3
      have hrp := pu_range (an : Int) (by omega) (by omega)
      have hlp := (pu_len (an : Int)).2
      have k1 : w3.cell? ⟨w.heap.size, 1, none⟩ = some (.slice aa an ac) := (hK.out w3 HB3.out).cell rfl
      obtain ⟨pre, hpre⟩ : ∃ pre, li d ++ pu (an : Int) = pre := ⟨_, rfl⟩
      have HPR := hide (show ByteL pre from by rw [← hpre]; exact bytel_app HRD.out hrp)
      have hpl : pre.length ≤ 420 := by rw [← hpre, List.length_append]; omega
      have HRR : Hid (R = pre ++ (fbs a ++ rest [lg, fl, ct, at9, ls] 0)) := hide (by rw [HE.out, ← hpre, List.append_assoc])
      rw [hpre] at HO3
      clear CP ho3 hb3 HB2 HO2 hpre hrp hlp HE HRD hlld
      go_wp2_with fail
      go_loopw [6, 35] (fun v s wr => ∃ j : Nat, j ≤ an ∧ s = .int .i64 j ∧ Hid (Own wr (w.heap.size + 1) v (pre ++ fbs (a.take j))) ∧ Hid (Below (w.heap.size + 1) wa wr)) (fun _ s _ => an - (intOf s).toNat)
      case atStart => exact ⟨0, by omega, rfl, hide (by simpa [fbs] using HO3.out), HB3⟩
      case round =>
        obtain ⟨j, hj, rfl, hown, hbel⟩ := hrel
        clear k1
        by_cases hlt2 : j < an
        · obtain ⟨f, b, off, hf, rfl, c0, c1, hfw⟩ := fs_at (HA.out _ (HBW.out _ hbel.out).1) j hlt2
          have hfr := HP4.out f (List.mem_of_getElem? hf)
          have HFT := hide (fbs_take hf)
          obtain ⟨fL, fN⟩ := f
          simp only at c0 c1 hfr HFT
          have hwL : IntKind.u64.wrap fL = fL := by
            simp [IntKind.wrap, IntKind.bits, IntKind.signed]
            omega
          have hwN : IntKind.u64.wrap fN = fN := by
            simp [IntKind.wrap, IntKind.bits, IntKind.signed]
            omega
          obtain ⟨pj, hpj⟩ : ∃ pj, pre ++ fbs (a.take j) = pj := ⟨_, rfl⟩
          have HPJ := hide hpj
          have hpjl : pj.length ≤ 2000 := by
            rw [← hpj, List.length_append]
            have := fbs_len (a.take j)
            rw [List.length_take] at this
            omega
          have HRJ := hide (show ByteL pj from by rw [← hpj]; exact bytel_app HPR.out (fbs_range _ fun g hg => HP4.out g (List.mem_of_mem_take hg)))
          rw [hpj] at hown
          have A1 := (Below.refl _ wr).alloc (Nat.le_refl _) (Obj.cells #[.int .i64 fL, .int .i64 fN] 29)
          have HB4 := hide (hbel.out.trans (A1.mono (HBW.out wr hbel.out).2))
          have HO4 := hide (own_keep9 hown.out A1)
          have C1 := hide (put_own (w.heap.size + 1) u6 pj _ HO4.out HRJ.out (by omega) (HBW.out _ HB4.out).2 fL (by omega) (by omega))
          clear hf hfw hpj A1
          go_wp2_with fail
          refine C1.out.mono ?_
          rintro e w4 ⟨v4, rfl, ho4, hb4⟩
          have HB5 := hide (HB4.out.trans (hb4.mono (HBW.out _ HB4.out).2))
          have hek : w4.cell? ⟨wr.heap.size, 1, none⟩ = some (.int .i64 fN) := ((ek_new wr #[.int .i64 fL, .int .i64 fN] 29).below hb4 (by simp)).cell rfl
          have hl1 := (pu_len fL).2
          have C2 := hide (put_own (w.heap.size + 1) v4 (pj ++ pu fL) w4 ho4 (bytel_app HRJ.out (pu_range fL (by omega) (by omega))) (by rw [List.length_append]; omega) (HBW.out _ HB5.out).2 fN (by omega) (by omega))
          clear C1 ho4 hb4 HO4
          go_wp2_with fail
          refine C2.out.mono ?_
          rintro e w5 ⟨v5, rfl, ho5, hb5⟩
          have HB6 := hide (HB5.out.trans (hb5.mono (HBW.out _ HB5.out).2))
          have HO5 := hide (show Own w5 (w.heap.size + 1) v5 (pre ++ fbs (a.take (j + 1))) from by rw [HFT.out, ← List.append_assoc, HPJ.out, ← List.append_assoc]; exact ho5)
          clear C2 ho5 hb5 hek c0 c1
          go_wp2
          go_roundw
          case rel => exact ⟨j + 1, by omega, by go_num, HO5, HB6⟩
          case measure => simp [intOf]; omega
        · obtain rfl : j = an := by omega
          have hown2 := hown.out
          rw [List.take_of_length_le (by omega)] at hown2
          obtain ⟨pj, hpj⟩ : ∃ pj, pre ++ fbs a = pj := ⟨_, rfl⟩
          have hpjl : pj.length ≤ 2000 := by
            rw [← hpj, List.length_append]
            have := fbs_len a
            omega
          have HRJ := hide (show ByteL pj from by rw [← hpj]; exact bytel_app HPR.out (fbs_range _ HP4.out))
          have HR2 : Hid (R = pj ++ rest [lg, fl, ct, at9, ls] 0) := hide (by rw [HRR.out, ← hpj, List.append_assoc])
          rw [hpj] at hown2
          have HO6 := hide hown2
          have HB6 := hide hbel.out
          have kk := hK.out _ hbel.out
          have k2 : wr.cell? ⟨w.heap.size, 2, none⟩ = some (.int .i64 lg) := kk.cell rfl
          have k3 : wr.cell? ⟨w.heap.size, 3, none⟩ = some (.int .u64 fl) := kk.cell rfl
          have k4 : wr.cell? ⟨w.heap.size, 4, none⟩ = some (.int .u64 ct) := kk.cell rfl
          have k5 : wr.cell? ⟨w.heap.size, 5, none⟩ = some (.int .u64 at9) := kk.cell rfl
          have k6 : wr.cell? ⟨w.heap.size, 6, none⟩ = some (.int .u64 ls) := kk.cell rfl
          have A1 := (Below.refl _ wr).alloc (Nat.le_refl _) (Obj.cells #[.int .u64 lg, .int .u64 fl, .int .u64 ct, .int .u64 at9, .int .u64 ls] 24)
          have HB7 := hide (hbel.out.trans (A1.mono (HBW.out wr hbel.out).2))
          have HO7 := hide (own_keep9 hown2 A1)
          have HUZ := hide (show ∀ W, Below (wr.heap.size + 1) (wr.alloc (Obj.cells #[.int .u64 lg, .int .u64 fl, .int .u64 ct, .int .u64 at9, .int .u64 ls] 24)) W → Uz W wr.heap.size [lg, fl, ct, at9, ls] from fun W hW => uz5 ((ek_new wr _ _).below hW (Nat.lt_succ_self _)))
          obtain ⟨ns, hns⟩ : ∃ ns, [lg, fl, ct, at9, ls] = ns := ⟨_, rfl⟩
          have hnl : ns.length = 5 := by rw [← hns]; rfl
          have HNR := hide (show ∀ z ∈ ns, 0 ≤ z ∧ z ≤ 18446744073709551615 from by
            rw [← hns]
            intro z hz
            simp at hz
            omega)
          rw [hns] at HUZ HR2
          clear kk hown hown2 hbel A1 hpj HO3 HB3 HRR HPR hpl HP4 HP3 hns
          go_wp2_with fail
          generalize hwb : wr.alloc (Obj.cells #[.int .u64 lg, .int .u64 fl, .int .u64 ct, .int .u64 at9, .int .u64 ls] 24) = wb at *
          have hsb : wb.heap.size = wr.heap.size + 1 := by rw [← hwb]; simp
          clear hwb k2 k3 k4 k5 k6
          obtain ⟨Bq, hBq⟩ : ∃ Bq, wr.heap.size = Bq := ⟨_, rfl⟩
          rw [hBq] at hsb HUZ
          have hBqw : w.heap.size + 1 ≤ Bq := by rw [← hBq]; exact (HBW.out _ HB6.out).2
          rw [hBq]
          clear hBq HO6 HB6
          go_loopw [6, 63] (fun v s wq => ∃ i : Nat, i ≤ 5 ∧ s = .int .i64 i ∧ Hid (Own wq (w.heap.size + 1) v (pj ++ rows ns i)) ∧ Hid (Below (Bq + 1) wb wq)) (fun _ s _ => 5 - (intOf s).toNat)
          case atStart => exact ⟨0, by omega, rfl, hide (by simpa [rows] using HO7.out), hide (Below.refl _ _)⟩
          case round =>
            obtain ⟨i, hi, rfl, hown, hbel⟩ := hrel
            have hbig := hide (show Below (w.heap.size + 1) wa _ from HB7.out.trans (hbel.out.mono (by omega)))
            by_cases hlt3 : i < 5
            · obtain ⟨z, hz⟩ : ∃ z, ns[i]? = some z := ⟨_, List.getElem?_eq_getElem (by rw [hnl]; exact hlt3)⟩
              have hcz := HUZ.out _ hbel.out i z hz
              have hzr := HNR.out z (List.mem_of_getElem? hz)
              have hq3 : (i : Int) < 5 := by omega
              have HRM := hide (rows_more hz)
              have hrl := rows_len ns i (by omega)
              have C1 := hide (put_own (w.heap.size + 1) u6 (pj ++ rows ns i) _ hown.out (bytel_app HRJ.out (rows_range ns (urange_of HNR.out) i)) (by rw [List.length_append]; omega) (HBW.out _ hbig.out).2 z (by omega) (by omega))
              clear hz
              go_wp2_with fail
              refine C1.out.mono ?_
              rintro e w7 ⟨v7, rfl, ho7, hb7⟩
              have HO8 := hide (show Own w7 (w.heap.size + 1) v7 (pj ++ rows ns (i + 1)) from by rw [HRM.out, ← List.append_assoc]; exact ho7)
              have HB8 := hide (hbel.out.trans (hb7.mono (by have := hbel.out.size; omega)))
              clear C1 ho7 hb7 hcz
              go_wp2
              go_roundw
              case rel => exact ⟨i + 1, by omega, by go_num, HO8, HB8⟩
              case measure => simp [intOf]; omega
            · have hi5 : i = 5 := by omega
              have hq4 : ¬ ((i : Int) < 5) := by omega
              have hown2 := hown.out
              rw [rows_all ns i (by omega), ← HR2.out] at hown2
              have HO9 := hide hown2
              clear hown hown2 hi5
              go_wp2
              go_ret
              exact ⟨_, rfl, own_base9 HO9.out (by omega), (HBW.out _ hbig.out).1⟩

end Go.Proofs.Ytgopcaemgcnapaa.Clep
