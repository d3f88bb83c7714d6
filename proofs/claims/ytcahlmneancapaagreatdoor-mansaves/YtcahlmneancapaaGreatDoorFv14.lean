/- What the document's own Apply does when called (a walk over the translated program): for any View and any Edit. Written by wip/tools/gen15refapply.py. -/
import Derived.Test.YtcahlmneancapaaGreatDoorFv03
import Derived.Deep.RegionLaw
import Derived.Deep.CutRange
import Derived.Test.YtcahlmneancapaaGreatDoorFv13
import Derived.Test.YtcahlmneancapaaGreatDoorFv12
import Derived.Test.YtcahlmneancapaaGreatDoorFv09
namespace Go.Proofs.YtcahlmneancapaaGreatDoor.Clep
open Go.RowKit
set_option linter.unusedVariables false
set_option maxRecDepth 10000

theorem gset6a (W : World) (R : Nat) (u0 u1 u2 u3 u4 u5 : Value) : W.grownBy ((((((W.setCell ⟨R, 0, none⟩ u0).setCell ⟨R, 1, none⟩ u1).setCell ⟨R, 2, none⟩ u2).setCell ⟨R, 3, none⟩ u3).setCell ⟨R, 4, none⟩ u4).setCell ⟨R, 5, none⟩ u5) (some R) :=
  (((((fgb_set W ⟨R, 0, none⟩ u0).trans (fgb_set _ ⟨R, 1, none⟩ u1)).trans (fgb_set _ ⟨R, 2, none⟩ u2)).trans (fgb_set _ ⟨R, 3, none⟩ u3)).trans (fgb_set _ ⟨R, 4, none⟩ u4)).trans (fgb_set _ ⟨R, 5, none⟩ u5)
set_option maxHeartbeats 8000000 in
theorem refapply_any (fa da aa : Option Addr) (fn fc dn dc an ac : Nat) (V : Vw) (E : Ed) (w : World) (hv : Fs w fa fn fc V.f) (hd : Zs w da dn dc E.d) (ha : Fs w aa an ac E.a) (hfn : fn ≤ 1000) (hdn : dn ≤ 1000) (han : an ≤ 1000) :
    Calls Tryz.prog 26 #[vwV fa fn fc V, edV da dn dc aa an ac E] w fun e w' => ApR (appl V E) w e w' := by
  have hl := hv.1
  have HWF := hide (show ∀ x ∈ [] ++ V.f, x.wf from hv.2.2.1)
  have HV := hide (fun W (hW : Below w.heap.size w W) => hv.below hW (Nat.le_refl _))
  have HD := hide (fun W (hW : Below w.heap.size w W) => hd.below hW (Nat.le_refl _))
  have HA := hide (fun W (hW : Below w.heap.size w W) => ha.below hW (Nat.le_refl _))
  have HLD := hide hd.1
  have HLA := hide ha.1
  have HRN := hide (show ∀ k, dropN V.f (E.d.take k) = none → appl V E = none from fun k h => by unfold appl; rw [dropN_bad _ _ k h])
  have HRS := hide (show ∀ m, dropN V.f E.d = some m → appl V E = if vok (after V E m) = true then some (after V E m) else none from fun m h => by unfold appl; rw [h])
  generalize appl V E = r at *
  obtain ⟨lg, l, fl, ct, at9, ls⟩ := V
  obtain ⟨d, a, lg', fl', ct', at9', ls'⟩ := E
  unfold vwV edV
  simp only at hl HV HD HA HWF HLD HLA HRN HRS ⊢
  clear hv hd ha
  subst hl
  go_enter Tryz.func26, Tryz.ntmps26
  go_wp2_with (at_builtin; refine wpList_append_files rfl _ _ rfl (w.heap.size + 4) _ [] rfl (ownF_empty (fhpS _ _ _ (by simp)) (by simp)) _ l.length fc l rfl (HV.out _ (by repeat (first | exact Below.refl _ _ | refine Below.alloc ?_ (by simp <;> omega) _ | refine Below.drew ?_))) (by simp; omega) (by simp) ?_; intro v1 w1 o1 g1 k1; have ST := hide (ast_first w w1 _ _ v1 _ g1 o1); obtain ⟨a1, p1, rfl, hp1, hF1, hB1⟩ := ownF_fs o1 HWF.out; have c1 := ST.out.o.cell (o := 1) rfl; have f1 := ST.out.o.free 1; clear o1 g1 k1 hF1)
  go_loopw [7] (fun i wr => ∃ (k : Nat), k ≤ dn ∧ i = .int .i64 k ∧ Hid (∃ v cur, dropN l (d.take k) = some cur ∧ cur.length ≤ l.length ∧ (∀ x ∈ cur, x.wf) ∧ ASt w wr #[.slice da dn dc, .slice aa an ac, .int .i64 lg', .int .u64 fl', .int .u64 ct', .int .u64 at9', .int .u64 ls'] #[.int .i64 lg, v, .int .u64 fl, .int .u64 ct, .int .u64 at9, .int .u64 ls] v cur)) (fun i _ => dn - (intOf i).toNat)
  case atStart => exact ⟨0, by omega, rfl, hide ⟨_, l, by simp [dropN], by omega, HWF.out, by have := ST.out.set 1 (.slice a1 l.length p1); exact this⟩⟩
  case round =>
    obtain ⟨i, hi, rfl, hst⟩ := hrel
    clear ST c1 f1 hB1 hp1
    obtain ⟨v, cur, hdr, hcl, hwf, st⟩ := hst.out
    have HDR := hide hdr
    have HCW := hide hwf
    have S := hide st
    obtain ⟨ao, cp, rfl, hcp, hF, hB⟩ := ownF_fs st.own hwf
    have e0 := st.e.cell (o := 0) rfl
    have e1 := st.e.cell (o := 1) rfl
    have q1 := st.o.cell (o := 1) rfl
    have f1 := st.o.free 1
    by_cases hlt : i < dn
    · obtain ⟨z, b, off, hz, rfl, hc, hz1, hz2⟩ := zs_at (HD.out wr st.bel) i hlt
      have HZ := hide hz
      clear hz hst hdr hwf st hF
      go_wp2_with fail
      go_loopw [8] (fun u wr' => ∃ j : Nat, j ≤ cur.length ∧ u = .int .i64 j ∧ Hid ((cur.take j).all (fun g => !(g.N == z)) = true) ∧ Hid (ASt w wr' #[.slice (some ⟨b, off, none⟩) dn dc, .slice aa an ac, .int .i64 lg', .int .u64 fl', .int .u64 ct', .int .u64 at9', .int .u64 ls'] #[.int .i64 lg, .slice ao cur.length cp, .int .u64 fl, .int .u64 ct, .int .u64 at9, .int .u64 ls] (.slice ao cur.length cp) cur)) (fun u _ => cur.length - (intOf u).toNat)
      case atStart => exact ⟨0, by omega, rfl, hide (by simp), S⟩
      case round =>
        obtain ⟨j, hj, rfl, hno, S2⟩ := hrel
        clear e0 e1 q1 f1 hc S
        have st := S2.out
        have e0 := st.e.cell (o := 0) rfl
        have q1 := st.o.cell (o := 1) rfl
        have f1 := st.o.free 1
        obtain ⟨z', b', off', hz', e9, hc, _, _⟩ := zs_at (HD.out _ st.bel) i hlt
        injection e9 with e9
        injection e9 with e9 e8
        subst e9 e8
        obtain rfl : z = z' := Option.some.inj (HZ.out.symm.trans hz')
        clear hz'
        obtain ⟨ao', cp', e9, _, hF, hB⟩ := ownF_fs st.own HCW.out
        injection e9 with e9 _ e8
        subst e9 e8
        by_cases hj2 : j < cur.length
        · obtain ⟨f, g, fo, hf, rfl, c0, c1, hfw⟩ := fs_at hF j hj2
          obtain ⟨fL, fN⟩ := f
          simp only at c0 c1
          have HF := hide hf
          have HFs := hide hF
          clear hF hf hfw st hB
          by_cases e : fN = z
          · subst e
            have q : (fN != fN) = false := by simp
            have hjn : ((j : Int) == (cur.length : Int)) = false := by simp; omega
            go_wp2_with fail
            go_region
            go_wp2_with fail
            have HB0 := hide (show Below wr.heap.size wr (wr.alloc (.cells #[] 99)).drew.drew by repeat (first | exact Below.refl _ _ | refine Below.alloc ?_ (by simp <;> omega) _ | refine Below.drew ?_))
            have own0 := hide (show OwnF (wr.alloc (.cells #[] 99)).drew.drew (w.heap.size + 4) (.slice (some ⟨wr.heap.size, 0, none⟩) 0 0) [] from ownF_empty (fhpS wr _ _ rfl) S2.out.sz)
            have hjc : j ≤ cp ∧ cur.length ≤ cp := by have := HFs.out.2.1.1; omega
            obtain ⟨hjc, hcc⟩ := hjc
            have fs0 := hide (HFs.out.below HB0.out (Nat.le_refl _) |>.take j (by omega) cp hjc)
            have hgl : g < wr.heap.size := World.block_lt_of_cell? wr _ c0
            have sz0 := hide (show w.heap.size + 4 ≤ (wr.alloc (.cells #[] 99)).drew.drew.heap.size from Nat.le_trans S2.out.sz HB0.out.size)
            have HN := hide (show ∀ w2, (wr.alloc (.cells #[] 99)).drew.drew.grownBy w2 (some wr.heap.size) → Fs w2 (some ⟨g, fo, none⟩) cur.length cp cur from fun w2 hg => (HFs.out.below HB0.out (Nat.le_refl _)).gb hg (fun a ha => by cases ha; simp; omega))
            have hwr : IntKind.i64.wrap ((j : Int) + 1) = (j : Int) + 1 := by
              simp [IntKind.wrap, IntKind.bits, IntKind.signed]
              omega
            have hk1 : (j : Int) + 1 ≤ (cur.length : Int) := by omega
            have hk0 : (0 : Int) ≤ (j : Int) + 1 := by omega
            have q9 : (wr.alloc (.cells #[] 99)).cell? ⟨w.heap.size + 1 + 1 + 1, 1, none⟩ = some (.slice (some ⟨g, fo, none⟩) cur.length cp) := (S2.out.o.below HB0.out (by have := S2.out.sz; omega)).cell (o := 1) rfl
            have HQ := hide (show ∀ w2, (wr.alloc (.cells #[] 99)).drew.drew.grownBy w2 (some wr.heap.size) → w2.cell? ⟨w.heap.size + 1 + 1 + 1, 1, none⟩ = some (.slice (some ⟨g, fo, none⟩) cur.length cp) from fun w2 hg => ((S2.out.o.below HB0.out (by have := S2.out.sz; omega)).gb hg (by simp; have := S2.out.sz; omega)).cell (o := 1) rfl)
            have HDN := hide (show dropN l (d.take (i + 1)) = some (wo cur j) by
              rw [List.take_add_one, HZ.out, Option.toList_some, dropN_end, HDR.out]
              have := atN_here HF.out rfl hno.out
              simp only [this]
              rw [if_neg (by omega)])
            have HWW := hide (show ∀ x ∈ wo cur j, x.wf from fun x hx => HCW.out x (by rcases List.mem_append.1 hx with h | h; exact List.mem_of_mem_take h; exact List.mem_of_mem_drop h))
            have HWL := hide (show (wo cur j).length ≤ l.length by rw [wo_len cur j hj2]; omega)
            by_cases hcp : cp = j + 1
            · subst hcp
              have hle : cur.length = j + 1 := by omega
              have hdr0 : cur.drop (j + 1) = [] := List.drop_eq_nil_of_le (by omega)
              have HOO := hide (show ∀ (W : World) v, OwnF W (w.heap.size + 4) v ([] ++ cur.take j ++ []) → OwnF W (w.heap.size + 4) v (wo cur j) from fun W v h => by unfold wo; rw [hdr0]; exact h)
              have hkk : (j : Int) ≤ (j : Int) + 1 := by omega
              have HLE := hide hle
              clear hle hdr0
              go_region_law (first
                | (refine step_append_files rfl (.tmp 49) (.tmp 53) rfl (w.heap.size + 4) _ [] (by first | rfl | simp [Act.eval, Act.put]) own0.out (some ⟨g, fo, none⟩) j (j + 1) (cur.take j) (by first | rfl | simp [Act.eval, Act.put]) fs0.out (by simp; omega) sz0.out ?_; intro v1 w2 o1 g1 k1; have c2 := HQ.out w2 g1)
                | (refine step_append_files rfl (.tmp 54) (.tmp 59) rfl (w.heap.size + 4) v1 ([] ++ cur.take j) (by first | rfl | simp [Act.eval, Act.put]) o1 (some ⟨g, fo, none⟩) 0 0 [] (by first | rfl | simp [Act.eval, Act.put]) ((HN.out w2 g1).take 0 (by omega) _ (by omega)) (by simp; omega) (Nat.le_trans sz0.out g1.size) ?_; intro v2 w3 o2 g2 k2; have o3 := HOO.out w3 v2 o2; have S3 := hide (S2.out.two HB0.out g1 k1 g2 k2 o3); obtain ⟨a2, p2, rfl, hp2, hF2, hB2⟩ := ownF_fs o3 HWW.out; have c3 := S3.out.o.cell (o := 1) rfl; have f3 := S3.out.o.free 1; clear hF2 hB2 o2 o3))
              all_goals
                clear g1 g2 k1 k2 o1 c2 c3 f3
                go_wp2
                go_roundw
                case rel => exact ⟨i + 1, by omega, by go_num, hide ⟨_, wo cur j, HDN.out, HWL.out, HWW.out, S3.out.set 1 _⟩⟩
                case measure => simp [intOf]; omega
            · have hcp' : j + 1 < cp := by omega
              go_region_law (first
                | (refine step_append_files rfl (.tmp 49) (.tmp 53) rfl (w.heap.size + 4) _ [] (by first | rfl | simp [Act.eval, Act.put]) own0.out (some ⟨g, fo, none⟩) j cp (cur.take j) (by first | rfl | simp [Act.eval, Act.put]) fs0.out (by simp; omega) sz0.out ?_; intro v1 w2 o1 g1 k1; have c2 := HQ.out w2 g1)
                | (refine step_append_files rfl (.tmp 54) (.tmp 59) rfl (w.heap.size + 4) v1 ([] ++ cur.take j) (by first | rfl | simp [Act.eval, Act.put]) o1 (some ⟨g, fo + (j + 1) * 2, none⟩) (cur.length - (j + 1)) (cp - (j + 1)) (cur.drop (j + 1)) (by first | rfl | simp [Act.eval, Act.put]) ((HN.out w2 g1).drop (j + 1) (by omega) _ (by omega)) (by simp; omega) (Nat.le_trans sz0.out g1.size) ?_; intro v2 w3 o2 g2 k2; have o3 : OwnF w3 (w.heap.size + 4) v2 (wo cur j) := o2; have S3 := hide (S2.out.two HB0.out g1 k1 g2 k2 o3); obtain ⟨a2, p2, rfl, hp2, hF2, hB2⟩ := ownF_fs o3 HWW.out; have c3 := S3.out.o.cell (o := 1) rfl; have f3 := S3.out.o.free 1; clear hF2 hB2 o2 o3))
              all_goals
                clear g1 g2 k1 k2 o1 c2 c3 f3
                go_wp2
                go_roundw
                case rel => exact ⟨i + 1, by omega, by go_num, hide ⟨_, wo cur j, HDN.out, HWL.out, HWW.out, S3.out.set 1 _⟩⟩
                case measure => simp [intOf]; omega
          · have q : (fN != z) = true := bne_iff_ne.mpr e
            have HN := hide (all_more HF.out (show (fun g : Fi => !(g.N == z)) ⟨fL, fN⟩ = true by simp [e]) hno.out)
            clear e
            go_wp2_with fail
            go_region
            go_wp2
            go_roundw
            case rel => exact ⟨j + 1, by omega, by go_num, HN, hide S2.out.drew⟩
            case measure => simp [intOf]; omega
        · obtain rfl : j = cur.length := by omega
          obtain rfl : r = none := HRN.out (i + 1) (by
            rw [List.take_add_one, HZ.out, Option.toList_some, dropN_end, HDR.out]
            have := atN_none (l := cur) (z := z) (by have := hno.out; rwa [List.take_of_length_le (Nat.le_refl _)] at this)
            simp only [this, if_true])
          have HB := hide st.bel
          have hnn : ((cur.length : Int) == (cur.length : Int)) = true := by simp
          have z0 := st.z.cell (o := 0) rfl
          have z1 := st.z.cell (o := 1) rfl
          have z2 := st.z.cell (o := 2) rfl
          have z3 := st.z.cell (o := 3) rfl
          have z4 := st.z.cell (o := 4) rfl
          have z5 := st.z.cell (o := 5) rfl
          have y0 := st.z.free 0
          have y1 := st.z.free 1
          have y2 := st.z.free 2
          have y3 := st.z.free 3
          have y4 := st.z.free 4
          have y5 := st.z.free 5
          clear hF hB st HRN HRS
          go_wp2_with fail
          go_region
          go_wp2
          have HZS := zset S2.out.z HB.out (by omega) (.int .i64 0) (.slice none 0 0) (.int .u64 0) (.int .u64 0) (.int .u64 0) (.int .u64 0)
          refine bodyPost_ret (apply_results (b := false) HZS.1.drew _ rfl rfl) rfl ?_
          exact ⟨rfl, HZS.2.drew⟩
    · obtain rfl : i = dn := by omega
      have hrs := HRS.out cur (by have := HDR.out; rwa [List.take_of_length_le (by have := HLD.out; omega)] at this)
      have HRX := hide hrs
      have HFA := hide (HA.out wr st.bel)
      have HWA := hide (show ∀ x ∈ cur ++ a, x.wf from fun x hx => by
        rcases List.mem_append.1 hx with h | h
        · exact hwf x h
        · exact HFA.out.2.2.1 x h)
      have hcap : cur.length + a.length ≤ 2000 := by have := HLA.out; omega
      have HCAP := hide hcap
      have hla := HLA.out
      subst hla
      clear hst hdr hwf st hF hB hrs HRN HRS HDR HD HV HA HWF f1
      obtain ⟨NL, hNL⟩ : ∃ n, (cur ++ a).length = n := ⟨_, rfl⟩
      have HNL := hide hNL
      clear hNL
      go_upto_region 13 with (at_builtin; refine wpList_append_files rfl _ _ rfl (w.heap.size + 4) _ cur rfl S.out.own _ a.length ac a rfl HFA.out (by omega) S.out.sz ?_; intro v4 w4 o4 g4 k4; have S4 := hide (S.out.two (Below.refl _ _) g4 k4 (fgb_below (Below.refl _ _) none) (by simp) o4); obtain ⟨a4, p4, hv4, hp4, hF4, hB4⟩ := ownF_fs o4 HWA.out; rw [HNL.out] at hv4; subst hv4; have c1 := S4.out.o.cell (o := 1) rfl; have f1 := S4.out.o.free 1; clear o4 g4 k4 hF4 hB4 e0 e1 q1)
      have S5 := hide (S4.out.set 1 (.slice a4 NL p4))
      generalize w4.setCell ⟨w.heap.size + 1 + 1 + 1, 1, none⟩ (.slice a4 NL p4) = w5 at *
      clear c1 f1
      have x0 : w5.cell? ⟨w.heap.size + 1, 2, none⟩ = some (.int .i64 lg') := S5.out.e.cell rfl
      have y0 : w5.cell? ⟨w.heap.size + 1 + 1 + 1, 0, none⟩ = some (.int .i64 lg) := S5.out.o.cell rfl
      have z0 := S5.out.o.free 0
      go_upto_if 70 with fail
      go_cut [5] from 70 (fun s5 wx => Hid (ASt w wx #[.slice da i dc, .slice aa a.length ac, .int .i64 lg', .int .u64 fl', .int .u64 ct', .int .u64 at9', .int .u64 ls'] #[.int .i64 (put0 lg lg'), .slice a4 NL p4, .int .u64 fl, .int .u64 ct, .int .u64 at9, .int .u64 ls] (.slice a4 NL p4) (cur ++ a)))
      case first =>
        by_cases hq : lg' = 0
        · have q : (lg' != 0) = false := by simp [hq]
          have hp : put0 lg lg' = lg := by unfold put0; rw [if_pos hq]
          have HP := hide hp
          clear hp hq
          go_wp2_with fail
          go_meet
          case rel => exact hide (by rw [HP.out]; exact S5.out)
        · have q : (lg' != 0) = true := by simp [hq]
          have hp : put0 lg lg' = lg' := by unfold put0; rw [if_neg hq]
          have HP := hide hp
          clear hp hq
          go_wp2_with fail
          go_meet
          case rel => exact hide (by rw [HP.out]; exact S5.out.set 0 _)
      case rest =>
        have hsx := hcut
        obtain ⟨w6, hwx⟩ : ∃ x, x = wc := ⟨_, rfl⟩
        subst hwx
        have S6 := hide hsx.out
        clear x0 y0 z0 hsx hcut
        have x1 : w6.cell? ⟨w.heap.size + 1, 3, none⟩ = some (.int .u64 fl') := S6.out.e.cell rfl
        have y1 : w6.cell? ⟨w.heap.size + 1 + 1 + 1, 2, none⟩ = some (.int .u64 fl) := S6.out.o.cell rfl
        have z1 := S6.out.o.free 2
        go_upto_if 76 with fail
        go_cut [5] from 76 (fun s5 wx => Hid (ASt w wx #[.slice da i dc, .slice aa a.length ac, .int .i64 lg', .int .u64 fl', .int .u64 ct', .int .u64 at9', .int .u64 ls'] #[.int .i64 (put0 lg lg'), .slice a4 NL p4, .int .u64 (put0 fl fl'), .int .u64 ct, .int .u64 at9, .int .u64 ls] (.slice a4 NL p4) (cur ++ a)))
        case first =>
          by_cases hq : fl' = 0
          · have q : (fl' != 0) = false := by simp [hq]
            have hp : put0 fl fl' = fl := by unfold put0; rw [if_pos hq]
            have HP := hide hp
            clear hp hq
            go_wp2_with fail
            go_meet
            case rel => exact hide (by rw [HP.out]; exact S6.out)
          · have q : (fl' != 0) = true := by simp [hq]
            have hp : put0 fl fl' = fl' := by unfold put0; rw [if_neg hq]
            have HP := hide hp
            clear hp hq
            go_wp2_with fail
            go_meet
            case rel => exact hide (by rw [HP.out]; exact S6.out.set 2 _)
        case rest =>
          have hsx := hcut
          obtain ⟨w7, hwx⟩ : ∃ x, x = wc := ⟨_, rfl⟩
          subst hwx
          have S7 := hide hsx.out
          clear x1 y1 z1 hsx hcut
          have x2 : w7.cell? ⟨w.heap.size + 1, 4, none⟩ = some (.int .u64 ct') := S7.out.e.cell rfl
          have y2 : w7.cell? ⟨w.heap.size + 1 + 1 + 1, 3, none⟩ = some (.int .u64 ct) := S7.out.o.cell rfl
          have z2 := S7.out.o.free 3
          go_upto_if 82 with fail
          go_cut [5] from 82 (fun s5 wx => Hid (ASt w wx #[.slice da i dc, .slice aa a.length ac, .int .i64 lg', .int .u64 fl', .int .u64 ct', .int .u64 at9', .int .u64 ls'] #[.int .i64 (put0 lg lg'), .slice a4 NL p4, .int .u64 (put0 fl fl'), .int .u64 (put0 ct ct'), .int .u64 at9, .int .u64 ls] (.slice a4 NL p4) (cur ++ a)))
          case first =>
            by_cases hq : ct' = 0
            · have q : (ct' != 0) = false := by simp [hq]
              have hp : put0 ct ct' = ct := by unfold put0; rw [if_pos hq]
              have HP := hide hp
              clear hp hq
              go_wp2_with fail
              go_meet
              case rel => exact hide (by rw [HP.out]; exact S7.out)
            · have q : (ct' != 0) = true := by simp [hq]
              have hp : put0 ct ct' = ct' := by unfold put0; rw [if_neg hq]
              have HP := hide hp
              clear hp hq
              go_wp2_with fail
              go_meet
              case rel => exact hide (by rw [HP.out]; exact S7.out.set 3 _)
          case rest =>
            have hsx := hcut
            obtain ⟨w8, hwx⟩ : ∃ x, x = wc := ⟨_, rfl⟩
            subst hwx
            have S8 := hide hsx.out
            clear x2 y2 z2 hsx hcut
            have x3 : w8.cell? ⟨w.heap.size + 1, 5, none⟩ = some (.int .u64 at9') := S8.out.e.cell rfl
            have y3 : w8.cell? ⟨w.heap.size + 1 + 1 + 1, 4, none⟩ = some (.int .u64 at9) := S8.out.o.cell rfl
            have z3 := S8.out.o.free 4
            go_upto_if 88 with fail
            go_cut [5] from 88 (fun s5 wx => Hid (ASt w wx #[.slice da i dc, .slice aa a.length ac, .int .i64 lg', .int .u64 fl', .int .u64 ct', .int .u64 at9', .int .u64 ls'] #[.int .i64 (put0 lg lg'), .slice a4 NL p4, .int .u64 (put0 fl fl'), .int .u64 (put0 ct ct'), .int .u64 (put0 at9 at9'), .int .u64 ls] (.slice a4 NL p4) (cur ++ a)))
            case first =>
              by_cases hq : at9' = 0
              · have q : (at9' != 0) = false := by simp [hq]
                have hp : put0 at9 at9' = at9 := by unfold put0; rw [if_pos hq]
                have HP := hide hp
                clear hp hq
                go_wp2_with fail
                go_meet
                case rel => exact hide (by rw [HP.out]; exact S8.out)
              · have q : (at9' != 0) = true := by simp [hq]
                have hp : put0 at9 at9' = at9' := by unfold put0; rw [if_neg hq]
                have HP := hide hp
                clear hp hq
                go_wp2_with fail
                go_meet
                case rel => exact hide (by rw [HP.out]; exact S8.out.set 4 _)
            case rest =>
              have hsx := hcut
              obtain ⟨w9, hwx⟩ : ∃ x, x = wc := ⟨_, rfl⟩
              subst hwx
              have S9 := hide hsx.out
              clear x3 y3 z3 hsx hcut
              have x4 : w9.cell? ⟨w.heap.size + 1, 6, none⟩ = some (.int .u64 ls') := S9.out.e.cell rfl
              have y4 : w9.cell? ⟨w.heap.size + 1 + 1 + 1, 5, none⟩ = some (.int .u64 ls) := S9.out.o.cell rfl
              have z4 := S9.out.o.free 5
              go_upto_if 94 with fail
              go_cut [5] from 94 (fun s5 wx => Hid (ASt w wx #[.slice da i dc, .slice aa a.length ac, .int .i64 lg', .int .u64 fl', .int .u64 ct', .int .u64 at9', .int .u64 ls'] #[.int .i64 (put0 lg lg'), .slice a4 NL p4, .int .u64 (put0 fl fl'), .int .u64 (put0 ct ct'), .int .u64 (put0 at9 at9'), .int .u64 (put0 ls ls')] (.slice a4 NL p4) (cur ++ a)))
              case first =>
                by_cases hq : ls' = 0
                · have q : (ls' != 0) = false := by simp [hq]
                  have hp : put0 ls ls' = ls := by unfold put0; rw [if_pos hq]
                  have HP := hide hp
                  clear hp hq
                  go_wp2_with fail
                  go_meet
                  case rel => exact hide (by rw [HP.out]; exact S9.out)
                · have q : (ls' != 0) = true := by simp [hq]
                  have hp : put0 ls ls' = ls' := by unfold put0; rw [if_neg hq]
                  have HP := hide hp
                  clear hp hq
                  go_wp2_with fail
                  go_meet
                  case rel => exact hide (by rw [HP.out]; exact S9.out.set 5 _)
              case rest =>
                have hsx := hcut
                obtain ⟨w10, hwx⟩ : ∃ x, x = wc := ⟨_, rfl⟩
                subst hwx
                have S10 := hide hsx.out
                clear x4 y4 z4 hsx hcut
                obtain ⟨V2, hV2⟩ : ∃ V : Vw, after ⟨lg, l, fl, ct, at9, ls⟩ ⟨d, a, lg', fl', ct', at9', ls'⟩ cur = V := ⟨_, rfl⟩
                have e0 : put0 lg lg' = V2.lg := by rw [← hV2]; rfl
                have e1 : cur ++ a = V2.f := by rw [← hV2]; rfl
                have efl : put0 fl fl' = V2.fl := by rw [← hV2]; rfl
                have ect : put0 ct ct' = V2.ct := by rw [← hV2]; rfl
                have eat9 : put0 at9 at9' = V2.at9 := by rw [← hV2]; rfl
                have els : put0 ls ls' = V2.ls := by rw [← hV2]; rfl
                have S11 := S10.out
                rw [e0, efl, ect, eat9, els, e1] at S11
                have hrx := HRX.out
                rw [hV2] at hrx
                have hnl : V2.f.length = NL := by rw [← e1]; exact HNL.out
                rw [← hnl] at S11 ⊢
                have hwa := HWA.out
                rw [e1] at hwa
                have hcp := HCAP.out
                rw [← List.length_append, e1] at hcp
                have hfs := ownF_fsN S11.own hwa rfl
                have S := hide S11
                have HRX := hide hrx
                have HWV := hide hwa
                have HFS := hide hfs.2
                have CV := hide (viewok_any a4 V2.f.length p4 V2 w10 hfs.2 (by omega))
                have c0 : w10.cell? ⟨w.heap.size + 1 + 1 + 1, 0, none⟩ = some (.int .i64 V2.lg) := S11.o.cell rfl
                have c1 : w10.cell? ⟨w.heap.size + 1 + 1 + 1, 1, none⟩ = some (.slice a4 V2.f.length p4) := S11.o.cell rfl
                have c2 : w10.cell? ⟨w.heap.size + 1 + 1 + 1, 2, none⟩ = some (.int .u64 V2.fl) := S11.o.cell rfl
                have c3 : w10.cell? ⟨w.heap.size + 1 + 1 + 1, 3, none⟩ = some (.int .u64 V2.ct) := S11.o.cell rfl
                have c4 : w10.cell? ⟨w.heap.size + 1 + 1 + 1, 4, none⟩ = some (.int .u64 V2.at9) := S11.o.cell rfl
                have c5 : w10.cell? ⟨w.heap.size + 1 + 1 + 1, 5, none⟩ = some (.int .u64 V2.ls) := S11.o.cell rfl
                unfold vwV at CV
                clear hnl e0 e1 efl ect eat9 els S11 hrx hwa hfs hV2
                go_wp2_with fail
                refine CV.out.mono ?_
                rintro e y ⟨rfl, hby⟩
                have hz := S.out.z.below hby S.out.z.lt
                have ho := S.out.o.below hby S.out.o.lt
                have HZ := hide hz
                have HBY := hide (S.out.bel.trans (hby.mono S.out.bel.size))
                have HOY := hide (ownF_keep S.out.own hby)
                have hly := hz.lt
                have hlo := ho.lt
                have z0 : y.cell? ⟨w.heap.size + 1 + 1, 0, none⟩ = some (.int .i64 0) := hz.cell rfl
                have y0 : y.frozen? ⟨w.heap.size + 1 + 1, 0, none⟩ = false := hz.free 0
                have z1 : y.cell? ⟨w.heap.size + 1 + 1, 1, none⟩ = some (.slice none 0 0) := hz.cell rfl
                have y1 : y.frozen? ⟨w.heap.size + 1 + 1, 1, none⟩ = false := hz.free 1
                have z2 : y.cell? ⟨w.heap.size + 1 + 1, 2, none⟩ = some (.int .u64 0) := hz.cell rfl
                have y2 : y.frozen? ⟨w.heap.size + 1 + 1, 2, none⟩ = false := hz.free 2
                have z3 : y.cell? ⟨w.heap.size + 1 + 1, 3, none⟩ = some (.int .u64 0) := hz.cell rfl
                have y3 : y.frozen? ⟨w.heap.size + 1 + 1, 3, none⟩ = false := hz.free 3
                have z4 : y.cell? ⟨w.heap.size + 1 + 1, 4, none⟩ = some (.int .u64 0) := hz.cell rfl
                have y4 : y.frozen? ⟨w.heap.size + 1 + 1, 4, none⟩ = false := hz.free 4
                have z5 : y.cell? ⟨w.heap.size + 1 + 1, 5, none⟩ = some (.int .u64 0) := hz.cell rfl
                have y5 : y.frozen? ⟨w.heap.size + 1 + 1, 5, none⟩ = false := hz.free 5
                obtain ⟨ok, hok⟩ : ∃ o, vok V2 = o := ⟨_, rfl⟩
                rw [hok] at HRX ⊢
                clear CV hby hz c0 c1 c2 c3 c4 c5 hok
                cases ok with
                | false =>
                  obtain rfl : r = none := by have := HRX.out; rw [if_neg (by simp)] at this; exact this
                  clear ho
                  go_wp2
                  have HZS := zset HZ.out HBY.out (by omega) (.int .i64 0) (.slice none 0 0) (.int .u64 0) (.int .u64 0) (.int .u64 0) (.int .u64 0)
                  refine bodyPost_ret (apply_results (b := false) HZS.1 _ rfl rfl) rfl ?_
                  exact ⟨rfl, HZS.2⟩
                | true =>
                  obtain rfl : r = some V2 := by have := HRX.out; rw [if_pos rfl] at this; exact this
                  have c0 : y.cell? ⟨w.heap.size + 1 + 1 + 1, 0, none⟩ = some (.int .i64 V2.lg) := ho.cell rfl
                  have c1 : y.cell? ⟨w.heap.size + 1 + 1 + 1, 1, none⟩ = some (.slice a4 V2.f.length p4) := ho.cell rfl
                  have c2 : y.cell? ⟨w.heap.size + 1 + 1 + 1, 2, none⟩ = some (.int .u64 V2.fl) := ho.cell rfl
                  have c3 : y.cell? ⟨w.heap.size + 1 + 1 + 1, 3, none⟩ = some (.int .u64 V2.ct) := ho.cell rfl
                  have c4 : y.cell? ⟨w.heap.size + 1 + 1 + 1, 4, none⟩ = some (.int .u64 V2.at9) := ho.cell rfl
                  have c5 : y.cell? ⟨w.heap.size + 1 + 1 + 1, 5, none⟩ = some (.int .u64 V2.ls) := ho.cell rfl
                  clear ho
                  go_wp2
                  have HZS := zset HZ.out HBY.out (by omega) (.int .i64 V2.lg) (.slice a4 V2.f.length p4) (.int .u64 V2.fl) (.int .u64 V2.ct) (.int .u64 V2.at9) (.int .u64 V2.ls)
                  refine bodyPost_ret (apply_results (b := true) HZS.1 _ rfl rfl) rfl ?_
                  have hg := gset6a y (w.heap.size + 1 + 1) (.int .i64 V2.lg) (.slice a4 V2.f.length p4) (.int .u64 V2.fl) (.int .u64 V2.ct) (.int .u64 V2.at9) (.int .u64 V2.ls)
                  have h6 := ownF_grown HOY.out hg (fun k hk => by have := Option.some.inj hk; omega)
                  exact ⟨⟨a4, p4, rfl, ownF_base h6 (by omega), (ownF_fsN h6 HWV.out rfl).2⟩, HZS.2⟩

end Go.Proofs.YtcahlmneancapaaGreatDoor.Clep

/- What breaks, own and View of a Manifest do when called (walks over the translated program). Conditions: one goroutine, a View of at most 100,000 files. -/
namespace Go.Proofs.YtcahlmneancapaaGreatDoor.Clep
open Go.RowKit Go.Maps
set_option linter.unusedVariables false
set_option maxRecDepth 10000

theorem breaks1_any (p M : Nat) (v : Value) (w : World) (h : w.cell? ⟨p, 0, none⟩ = some (.pointer (some ⟨M, 0, none⟩))) (hc : w.cell? ⟨M, 12, none⟩ = some v) (hf : w.frozen? ⟨M, 12, none⟩ = false) :
    Calls Tryz.prog 83 #[.pointer (some ⟨p, 0, none⟩)] w fun e w' => e = .returned (.tuple #[]) ∧ w' = w.setCell ⟨M, 12, none⟩ (.bool true) := by
  go_enter Tryz.func83, Tryz.ntmps83
  go_wp2
  go_end0
  exact ⟨rfl, rfl⟩
set_option maxHeartbeats 1000000 in
theorem breaks_any {F : Nat → Prop} {w : World} {M R n c : Nat} {V : Vw} {br : Bool} {S : St} (h : Ma F w M R n c V br S) :
    Calls Tryz.prog 41 #[.pointer (some ⟨M, 0, none⟩)] w fun e w' => e = .returned (.tuple #[]) ∧ Ma F w' M R n c V true S ∧ Ch (fun i => i = M) w w' := by
  obtain ⟨a, fc, hb, hfs, hcap, hx⟩ := h.blk
  have hA := (Below.refl _ w).alloc (Nat.le_refl _) (Obj.cells #[.pointer (some ⟨M, 0, none⟩)] 24)
  have hb1 := hb.keep hA
  have hMw := h.lt
  cases br with
  | true =>
    have D := hide (do_done ⟨M, 9, none⟩ (.func (.func 83) #[] #[.pointer (some ⟨w.heap.size, 0, none⟩)]) (w.alloc (Obj.cells #[.pointer (some ⟨M, 0, none⟩)] 24)) (hb1.cell rfl))
    have HE := hide (show Ma F (w.alloc (Obj.cells #[.pointer (some ⟨M, 0, none⟩)] 24)) M R n c V true S ∧ Ch (fun i => i = M) w (w.alloc (Obj.cells #[.pointer (some ⟨M, 0, none⟩)] 24)) from ⟨h.below hA, Ch.of hA⟩)
    clear h hb hfs hx hA hb1
    go_enter Tryz.func41, Tryz.ntmps41
    go_wp2_with fail
    refine D.out.mono ?_
    rintro e w1 ⟨rfl, rfl⟩
    go_wp2
    go_end0
    exact ⟨rfl, HE.out⟩
  | false =>
    have hb2 := hb1.set 10 (.int .i32 1)
    have hb3 := hb2.set 12 (.bool true)
    have hb4 := ((hb3.drew).set 9 (.int .u32 1)).set 10 (.int .i32 0)
    have hp : ((w.alloc (Obj.cells #[.pointer (some ⟨M, 0, none⟩)] 24)).setCell ⟨M, 10, none⟩ (.int .i32 1)).cell? ⟨w.heap.size, 0, none⟩ = some (.pointer (some ⟨M, 0, none⟩)) := by
      rw [World.cell?_setCell_other _ ⟨M, 10, none⟩ ⟨w.heap.size, 0, none⟩ _ (by intro q; injection q with q1 q2; omega)]
      go_simp
    have B1 := hide (breaks1_any w.heap.size M (.bool false) _ hp (hb2.cell rfl) (hb2.free 12))
    have D := hide (do_first M 9 ⟨w.heap.size, 0, none⟩ (fun w2 => w2 = ((w.alloc (Obj.cells #[.pointer (some ⟨M, 0, none⟩)] 24)).setCell ⟨M, 10, none⟩ (.int .i32 1)).setCell ⟨M, 12, none⟩ (.bool true)) (w.alloc (Obj.cells #[.pointer (some ⟨M, 0, none⟩)] 24)) (hb1.cell rfl) (hb1.cell rfl) (hb1.free 9) (hb1.free 10) B1 (hide (fun w2 e => by
      subst e
      exact ⟨hb3.cell rfl, hb3.cell rfl, hb3.free 9, hb3.free 10⟩)))
    have c0 := Ch.of (P := fun i => i = M) hA
    have c1 := c0.trans (Ch.set (P := fun i => i = M) _ ⟨M, 10, none⟩ (.int .i32 1) rfl)
    have c2 := c1.trans (Ch.set (P := fun i => i = M) _ ⟨M, 12, none⟩ (.bool true) rfl)
    have c3 := c2.trans (Ch.of (w' := (((w.alloc (Obj.cells #[.pointer (some ⟨M, 0, none⟩)] 24)).setCell ⟨M, 10, none⟩ (.int .i32 1)).setCell ⟨M, 12, none⟩ (.bool true)).drew) ((Below.refl _ _).drew))
    have c4 := c3.trans (Ch.set (P := fun i => i = M) _ ⟨M, 9, none⟩ (.int .u32 1) rfl)
    have c5 := c4.trans (Ch.set (P := fun i => i = M) _ ⟨M, 10, none⟩ (.int .i32 0) rfl)
    have HE : Hid (Ma F (((((w.alloc (Obj.cells #[.pointer (some ⟨M, 0, none⟩)] 24)).setCell ⟨M, 10, none⟩ (.int .i32 1)).setCell ⟨M, 12, none⟩ (.bool true)).drew.setCell ⟨M, 9, none⟩ (.int .u32 1)).setCell ⟨M, 10, none⟩ (.int .i32 0)) M R n c V true S ∧ Ch (fun i => i = M) w (((((w.alloc (Obj.cells #[.pointer (some ⟨M, 0, none⟩)] 24)).setCell ⟨M, 10, none⟩ (.int .i32 1)).setCell ⟨M, 12, none⟩ (.bool true)).drew.setCell ⟨M, 9, none⟩ (.int .u32 1)).setCell ⟨M, 10, none⟩ (.int .i32 0))) :=
      hide ⟨⟨⟨a, fc, hb4, hfs.ch c5 (fun x hx' => (hx x hx').2), hcap, hx⟩, (h.held.ch (c5.mono (fun i _ e => by subst e; exact h.own))).less (fun i hi => .inl hi), h.own⟩, c5⟩
    clear h hb hfs hx hA hb1 hb2 hb3 hb4 hp B1 c0 c1 c2 c3 c4 c5
    go_enter Tryz.func41, Tryz.ntmps41
    go_wp2_with fail
    refine D.out.mono ?_
    rintro e w1 ⟨rfl, w2, rfl, hw1⟩
    have HE1 : Hid (Ma F w1 M R n c V true S ∧ Ch (fun i => i = M) w w1) := hide (by rw [hw1]; exact HE.out)
    clear D HE hw1
    go_wp2
    go_end0
    exact ⟨rfl, HE1.out⟩

/-- What own and View answer: a View in rows of its own. -/
def OwA (V : Vw) (w : World) (e : Ending) (w' : World) : Prop := ∃ a c, e = .returned (vwV a V.f.length c V) ∧ c ≤ 9223372036854775807 ∧ OwnF w' w.heap.size (.slice a V.f.length c) V.f ∧ Fs w' a V.f.length c V.f ∧ (∀ x, a = some x → w.heap.size ≤ x.block) ∧ Below w.heap.size w w'
theorem mown_results {w : World} {R : Nat} {A B C D E : Int} {v : Value} (h : Ek w R #[.int .i64 A, v, .int .u64 B, .int .u64 C, .int .u64 D, .int .u64 E] 31) (ts : Array Value) (h2 : ts.getD 2 undef = .pointer (some ⟨R, 0, none⟩)) :
    (results Tryz.f36 ts).run Tryz.prog w = .ok (.agg #[.int .i64 A, v, .int .u64 B, .int .u64 C, .int .u64 D, .int .u64 E]) w := by
  have c0 := h.cell (o := 0) rfl
  have c1 := h.cell (o := 1) rfl
  have c2 := h.cell (o := 2) rfl
  have c3 := h.cell (o := 3) rfl
  have c4 := h.cell (o := 4) rfl
  have c5 := h.cell (o := 5) rfl
  rw [Array.getD_eq_getD_getElem?] at h2
  simp [results, Tryz.results36, go_sem, c0, c1, c2, c3, c4, c5, h2]
theorem mview_results {w : World} {R : Nat} {A B C D E : Int} {v : Value} (h : Ek w R #[.int .i64 A, v, .int .u64 B, .int .u64 C, .int .u64 D, .int .u64 E] 31) (ts : Array Value) (h2 : ts.getD 2 undef = .pointer (some ⟨R, 0, none⟩)) :
    (results Tryz.f15 ts).run Tryz.prog w = .ok (.agg #[.int .i64 A, v, .int .u64 B, .int .u64 C, .int .u64 D, .int .u64 E]) w := by
  have c0 := h.cell (o := 0) rfl
  have c1 := h.cell (o := 1) rfl
  have c2 := h.cell (o := 2) rfl
  have c3 := h.cell (o := 3) rfl
  have c4 := h.cell (o := 4) rfl
  have c5 := h.cell (o := 5) rfl
  rw [Array.getD_eq_getD_getElem?] at h2
  simp [results, Tryz.results15, go_sem, c0, c1, c2, c3, c4, c5, h2]
set_option maxHeartbeats 1000000 in
theorem mown_any (fa : Option Addr) (fn fc : Nat) (V : Vw) (w : World) (h : Fs w fa fn fc V.f) (hn : fn ≤ 100000) :
    Calls Tryz.prog 36 #[vwV fa fn fc V] w (OwA V w) := by
  have hl := h.1
  have HW := hide h.2.2.1
  have HR := hide (show ∀ (a : Option Addr) (c : Nat) (W : World), c ≤ 9223372036854775807 → OwnF W w.heap.size (.slice a V.f.length c) V.f → Fs W a V.f.length c V.f → (∀ x, a = some x → w.heap.size ≤ x.block) → Below w.heap.size w W → OwA V w (.returned (vwV a V.f.length c V)) W from fun a c W h1 h2 h3 h4 h5 => ⟨a, c, rfl, h1, h2, h3, h4, h5⟩)
  generalize OwA V w = Q at *
  obtain ⟨lg, l, fl, ct, at9, ls⟩ := V
  unfold vwV at HR ⊢
  simp only at hl h HR HW ⊢
  subst hl
  have hA1 := (Below.refl _ w).alloc (Nat.le_refl _) (Obj.cells #[.int .i64 lg, .slice fa l.length fc, .int .u64 fl, .int .u64 ct, .int .u64 at9, .int .u64 ls] 31)
  have hA2 := hA1.alloc (by simp) (Obj.cells #[.int .i64 0, .slice none 0 0, .int .u64 0, .int .u64 0, .int .u64 0, .int .u64 0] 31)
  have k1 := ek_old (ek_new w #[.int .i64 lg, .slice fa l.length fc, .int .u64 fl, .int .u64 ct, .int .u64 at9, .int .u64 ls] 31) (Obj.cells #[.int .i64 0, .slice none 0 0, .int .u64 0, .int .u64 0, .int .u64 0, .int .u64 0] 31)
  have k2 := ek_new (w.alloc (Obj.cells #[.int .i64 lg, .slice fa l.length fc, .int .u64 fl, .int .u64 ct, .int .u64 at9, .int .u64 ls] 31)) #[.int .i64 0, .slice none 0 0, .int .u64 0, .int .u64 0, .int .u64 0, .int .u64 0] 31
  have hs1 : (w.alloc (Obj.cells #[.int .i64 lg, .slice fa l.length fc, .int .u64 fl, .int .u64 ct, .int .u64 at9, .int .u64 ls] 31)).heap.size = w.heap.size + 1 := by simp
  rw [hs1] at k2
  have C := hide (fclone_any fa l.length fc l _ (h.below hA2 (Nat.le_refl _)) hn)
  have HA2 := hide hA2
  have K1 := hide k1
  have K2 := hide k2
  have HSZ := hide (show ((w.alloc (Obj.cells #[.int .i64 lg, .slice fa l.length fc, .int .u64 fl, .int .u64 ct, .int .u64 at9, .int .u64 ls] 31)).alloc (Obj.cells #[.int .i64 0, .slice none 0 0, .int .u64 0, .int .u64 0, .int .u64 0, .int .u64 0] 31)).heap.size = w.heap.size + 2 by simp)
  clear h hA1 hA2 k1 k2 hs1
  go_enter Tryz.func36, Tryz.ntmps36
  go_wp2_with fail
  refine C.out.mono ?_
  rintro e w1 ⟨v, rfl, ho, hb⟩
  rw [HSZ.out] at ho hb
  obtain ⟨a, c, hv, hc, hf, hx⟩ := ownF_fs ho HW.out
  subst hv
  have j1 := Ek.below K1.out hb (by omega)
  have j2 := Ek.below K2.out hb (by omega)
  have hsz1 := hb.size
  have hsz2 := HSZ.out
  have ho2 : OwnF w1 w.heap.size (.slice a l.length c) l := row_base ho (by omega)
  have q1 := j1.set 1 (.slice a l.length c)
  have q2 := j2.gb (fgb_set w1 ⟨w.heap.size, 1, none⟩ (.slice a l.length c)) (by intro e; injection e with e; simp only at e; omega)
  have q3 := (((((q2.set 0 (.int .i64 lg)).set 1 (.slice a l.length c)).set 2 (.int .u64 fl)).set 3 (.int .u64 ct)).set 4 (.int .u64 at9)).set 5 (.int .u64 ls)
  have hg := gset6a (w1.setCell ⟨w.heap.size, 1, none⟩ (.slice a l.length c)) (w.heap.size + 1) (.int .i64 lg) (.slice a l.length c) (.int .u64 fl) (.int .u64 ct) (.int .u64 at9) (.int .u64 ls)
  have g0 := fgb_set w1 ⟨w.heap.size, 1, none⟩ (.slice a l.length c)
  have hx2 := hx
  have E1 := hide (And.intro q3 (HR.out a c _ hc (ownF_far (p := w.heap.size + 1) (ownF_far ho2 (p := w.heap.size) g0 (fun e => by have := (World.ownsRow.lt ho _ e).1; omega)) hg (fun e => by have := (World.ownsRow.lt ho _ e).1; omega)) ((hf.gb g0 (fun x e => by have := hx x e; intro e2; injection e2 with e2; simp only at e2; omega)).gb hg (fun x e => by have := hx x e; intro e2; injection e2 with e2; omega)) (fun x e => by have := hx x e; omega) ((HA2.out.trans (hb.mono (by omega))).grown (g0) (by omega) (fun k e => by injection e with e; simp only at e; omega) |>.grown hg (by have := g0.size; omega) (fun k e => by injection e with e; omega))))
  have c0 : w1.cell? ⟨w.heap.size, 0, none⟩ = some (.int .i64 lg) := j1.cell rfl
  have c1 : w1.cell? ⟨w.heap.size, 1, none⟩ = some (.slice fa l.length fc) := j1.cell rfl
  have c2 : w1.cell? ⟨w.heap.size, 2, none⟩ = some (.int .u64 fl) := j1.cell rfl
  have c3 : w1.cell? ⟨w.heap.size, 3, none⟩ = some (.int .u64 ct) := j1.cell rfl
  have c4 : w1.cell? ⟨w.heap.size, 4, none⟩ = some (.int .u64 at9) := j1.cell rfl
  have c5 : w1.cell? ⟨w.heap.size, 5, none⟩ = some (.int .u64 ls) := j1.cell rfl
  have f1 := j1.free 1
  have z0 : w1.cell? ⟨w.heap.size + 1, 0, none⟩ = some (.int .i64 0) := j2.cell rfl
  have z1 : w1.cell? ⟨w.heap.size + 1, 1, none⟩ = some (.slice none 0 0) := j2.cell rfl
  have z2 : w1.cell? ⟨w.heap.size + 1, 2, none⟩ = some (.int .u64 0) := j2.cell rfl
  have z3 : w1.cell? ⟨w.heap.size + 1, 3, none⟩ = some (.int .u64 0) := j2.cell rfl
  have z4 : w1.cell? ⟨w.heap.size + 1, 4, none⟩ = some (.int .u64 0) := j2.cell rfl
  have z5 : w1.cell? ⟨w.heap.size + 1, 5, none⟩ = some (.int .u64 0) := j2.cell rfl
  have y0 := j2.free 0
  have y1 := j2.free 1
  have y2 := j2.free 2
  have y3 := j2.free 3
  have y4 := j2.free 4
  have y5 := j2.free 5
  clear C HA2 K1 K2 HSZ hsz1 hsz2 ho2 ho hb hf hx j1 j2 q1 q2 q3 hg g0 hx2 HR
  go_wp2
  refine bodyPost_ret (mown_results E1.out.1 _ rfl) rfl ?_
  exact E1.out.2
end Go.Proofs.YtcahlmneancapaaGreatDoor.Clep
