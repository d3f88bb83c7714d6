/- What the document's own Apply does when called (a walk over the translated program): for any View and any Edit. Written by wip/tools/gen15refapply.py. -/
import Derived.Test.YtgopcaemgcnapaaEAst
import Derived.Deep.RegionLaw
import Derived.Deep.CutRange
import Derived.Test.YtgopcaemgcnapaaEApplyP
import Derived.Test.YtgopcaemgcnapaaRefFrame
import Derived.BigRegion
import Derived.Test.YtgopcaemgcnapaaWt
import Derived.Test.YtgopcaemgcnapaaWu
import Derived.Test.YtgopcaemgcnapaaEBlk
import Derived.Deep.Slices
import Derived.ChangeOld
import Derived.ProofKit
import Derived.OpenShut
import Derived.Test.YtgopcaemgcnapaaCrcText
import Derived.Lib.ConvBytes
import Derived.Test.YtgopcaemgcnapaaCut
import Derived.Test.YtgopcaemgcnapaaEInv
import Derived.Test.YtgopcaemgcnapaaEReg
import Derived.Test.YtgopcaemgcnapaaBase
import Derived.Test.YtgopcaemgcnapaaESameE
import Derived.Test.YtgopcaemgcnapaaESamePV
import Derived.Test.YtgopcaemgcnapaaEView
import Derived.Test.YtgopcaemgcnapaaEOkW
import Derived.Test.YtgopcaemgcnapaaKept
namespace Go.Proofs.Ytgopcaemgcnapaa.Clep
open Go.RowKit
set_option linter.unusedVariables false
set_option maxRecDepth 10000

theorem gset6a (W : World) (R : Nat) (u0 u1 u2 u3 u4 u5 : Value) : W.grownBy ((((((W.setCell ⟨R, 0, none⟩ u0).setCell ⟨R, 1, none⟩ u1).setCell ⟨R, 2, none⟩ u2).setCell ⟨R, 3, none⟩ u3).setCell ⟨R, 4, none⟩ u4).setCell ⟨R, 5, none⟩ u5) (some R) :=
  (((((fgb_set W ⟨R, 0, none⟩ u0).trans (fgb_set _ ⟨R, 1, none⟩ u1)).trans (fgb_set _ ⟨R, 2, none⟩ u2)).trans (fgb_set _ ⟨R, 3, none⟩ u3)).trans (fgb_set _ ⟨R, 4, none⟩ u4)).trans (fgb_set _ ⟨R, 5, none⟩ u5)
set_option maxHeartbeats 8000000 in
theorem refapply_any (fa da aa : Option Addr) (fn fc dn dc an ac : Nat) (V : Vw) (E : Ed) (w : World) (hv : Fs w fa fn fc V.f) (hd : Zs w da dn dc E.d) (ha : Fs w aa an ac E.a) (hfn : fn ≤ 1000) (hdn : dn ≤ 1000) (han : an ≤ 1000) :
    Calls Try.prog 20 #[vwV fa fn fc V, edV da dn dc aa an ac E] w fun e w' => ApR (appl V E) w e w' := by
  have hl := hv.1
  have HWF := hide (show ∀ x ∈ [] ++ V.f, x.wf from hv.2.2.1)
  have HV := hide (fun W (hW : Below w.heap.size w W) => hv.below hW (Nat.le_refl _))
  have HD := hide (fun W (hW : Below w.heap.size w W) => hd.below hW (Nat.le_refl _))
  have HA := hide (fun W (hW : Below w.heap.size w W) => ha.below hW (Nat.le_refl _))
  have HLD := hide hd.1
  have HLA := hide ha.1
  have HRN := hide (show ∀ k, dropN V.f (E.d.take k) = none → appl V E = none from fun k h => by unfold appl; rw [dropN_bad _ _ k h])
  have HRS := hide (show ∀ m, dropN V.f E.d = some m → appl V E = if vok (after V E m) = true then some (after V E m) else none from fun m h => by unfold appl; rw [h])
  generalize appl V E = r at *
  obtain ⟨lg, l, fl, ct, at9, ls⟩ := V
  obtain ⟨d, a, lg', fl', ct', at9', ls'⟩ := E
  unfold vwV edV
  simp only at hl HV HD HA HWF HLD HLA HRN HRS ⊢
  clear hv hd ha
  subst hl
  go_enter Try.func20, Try.ntmps20
  go_wp2_with (at_builtin; refine wpList_append_files rfl _ _ rfl (w.heap.size + 4) _ [] rfl (ownF_empty (fhpS _ _ _ (by simp)) (by simp)) _ l.length fc l rfl (HV.out _ (by repeat (first | exact Below.refl _ _ | refine Below.alloc ?_ (by simp <;> omega) _ | refine Below.drew ?_))) (by simp; omega) (by simp) ?_; intro v1 w1 o1 g1 k1; have ST := hide (ast_first w w1 _ _ v1 _ g1 o1); obtain ⟨a1, p1, rfl, hp1, hF1, hB1⟩ := ownF_fs o1 HWF.out; have c1 := ST.out.o.cell (o := 1) rfl; have f1 := ST.out.o.free 1; clear o1 g1 k1 hF1)
  go_loopw [7] (fun i wr => ∃ (k : Nat), k ≤ dn ∧ i = .int .i64 k ∧ Hid (∃ v cur, dropN l (d.take k) = some cur ∧ cur.length ≤ l.length ∧ (∀ x ∈ cur, x.wf) ∧ ASt w wr #[.slice da dn dc, .slice aa an ac, .int .i64 lg', .int .u64 fl', .int .u64 ct', .int .u64 at9', .int .u64 ls'] #[.int .i64 lg, v, .int .u64 fl, .int .u64 ct, .int .u64 at9, .int .u64 ls] v cur)) (fun i _ => dn - (intOf i).toNat)
  case atStart => exact ⟨0, by omega, rfl, hide ⟨_, l, by simp [dropN], by omega, HWF.out, by have := ST.out.set 1 (.slice a1 l.length p1); exact this⟩⟩
  case round =>
    obtain ⟨i, hi, rfl, hst⟩ := hrel
    clear ST c1 f1 hB1 hp1
    obtain ⟨v, cur, hdr, hcl, hwf, st⟩ := hst.out
    have HDR := hide hdr
    have HCW := hide hwf
    have S := hide st
    obtain ⟨ao, cp, rfl, hcp, hF, hB⟩ := ownF_fs st.own hwf
    have e0 := st.e.cell (o := 0) rfl
    have e1 := st.e.cell (o := 1) rfl
    have q1 := st.o.cell (o := 1) rfl
    have f1 := st.o.free 1
    by_cases hlt : i < dn
    · obtain ⟨z, b, off, hz, rfl, hc, hz1, hz2⟩ := zs_at (HD.out wr st.bel) i hlt
      have HZ := hide hz
      clear hz hst hdr hwf st hF
      go_wp2_with fail
      go_loopw [8] (fun u wr' => ∃ j : Nat, j ≤ cur.length ∧ u = .int .i64 j ∧ Hid ((cur.take j).all (fun g => !(g.N == z)) = true) ∧ Hid (ASt w wr' #[.slice (some ⟨b, off, none⟩) dn dc, .slice aa an ac, .int .i64 lg', .int .u64 fl', .int .u64 ct', .int .u64 at9', .int .u64 ls'] #[.int .i64 lg, .slice ao cur.length cp, .int .u64 fl, .int .u64 ct, .int .u64 at9, .int .u64 ls] (.slice ao cur.length cp) cur)) (fun u _ => cur.length - (intOf u).toNat)
      case atStart => exact ⟨0, by omega, rfl, hide (by simp), S⟩
      case round =>
        obtain ⟨j, hj, rfl, hno, S2⟩ := hrel
        clear e0 e1 q1 f1 hc S
        have st := S2.out
        have e0 := st.e.cell (o := 0) rfl
        have q1 := st.o.cell (o := 1) rfl
        have f1 := st.o.free 1
        obtain ⟨z', b', off', hz', e9, hc, _, _⟩ := zs_at (HD.out _ st.bel) i hlt
        injection e9 with e9
        injection e9 with e9 e8
        subst e9 e8
        obtain rfl : z = z' := Option.some.inj (HZ.out.symm.trans hz')
        clear hz'
        obtain ⟨ao', cp', e9, _, hF, hB⟩ := ownF_fs st.own HCW.out
        injection e9 with e9 _ e8
        subst e9 e8
        by_cases hj2 : j < cur.length
        · obtain ⟨f, g, fo, hf, rfl, c0, c1, hfw⟩ := fs_at hF j hj2
          obtain ⟨fL, fN⟩ := f
          simp only at c0 c1
          have HF := hide hf
          have HFs := hide hF
          clear hF hf hfw st hB
          by_cases e : fN = z
          · subst e
            have q : (fN != fN) = false := by simp
            have hjn : ((j : Int) == (cur.length : Int)) = false := by simp; omega
            go_wp2_with fail
            go_region
            go_wp2_with fail
            have HB0 := hide (show Below wr.heap.size wr (wr.alloc (.cells #[] 29)).drew.drew by repeat (first | exact Below.refl _ _ | refine Below.alloc ?_ (by simp <;> omega) _ | refine Below.drew ?_))
            have own0 := hide (show OwnF (wr.alloc (.cells #[] 29)).drew.drew (w.heap.size + 4) (.slice (some ⟨wr.heap.size, 0, none⟩) 0 0) [] from ownF_empty (fhpS wr _ _ rfl) S2.out.sz)
            have hjc : j ≤ cp ∧ cur.length ≤ cp := by have := HFs.out.2.1.1; omega
            obtain ⟨hjc, hcc⟩ := hjc
            have fs0 := hide (HFs.out.below HB0.out (Nat.le_refl _) |>.take j (by omega) cp hjc)
            have hgl : g < wr.heap.size := World.block_lt_of_cell? wr _ c0
            have sz0 := hide (show w.heap.size + 4 ≤ (wr.alloc (.cells #[] 29)).drew.drew.heap.size from Nat.le_trans S2.out.sz HB0.out.size)
            have HN := hide (show ∀ w2, (wr.alloc (.cells #[] 29)).drew.drew.grownBy w2 (some wr.heap.size) → Fs w2 (some ⟨g, fo, none⟩) cur.length cp cur from fun w2 hg => (HFs.out.below HB0.out (Nat.le_refl _)).gb hg (fun a ha => by cases ha; simp; omega))
            have hwr : IntKind.i64.wrap ((j : Int) + 1) = (j : Int) + 1 := by
              simp [IntKind.wrap, IntKind.bits, IntKind.signed]
              omega
            have hk1 : (j : Int) + 1 ≤ (cur.length : Int) := by omega
            have hk0 : (0 : Int) ≤ (j : Int) + 1 := by omega
            have q9 : (wr.alloc (.cells #[] 29)).cell? ⟨w.heap.size + 1 + 1 + 1, 1, none⟩ = some (.slice (some ⟨g, fo, none⟩) cur.length cp) := (S2.out.o.below HB0.out (by have := S2.out.sz; omega)).cell (o := 1) rfl
            have HQ := hide (show ∀ w2, (wr.alloc (.cells #[] 29)).drew.drew.grownBy w2 (some wr.heap.size) → w2.cell? ⟨w.heap.size + 1 + 1 + 1, 1, none⟩ = some (.slice (some ⟨g, fo, none⟩) cur.length cp) from fun w2 hg => ((S2.out.o.below HB0.out (by have := S2.out.sz; omega)).gb hg (by simp; have := S2.out.sz; omega)).cell (o := 1) rfl)
            have HDN := hide (show dropN l (d.take (i + 1)) = some (wo cur j) by
              rw [List.take_add_one, HZ.out, Option.toList_some, dropN_end, HDR.out]
              have := atN_here HF.out rfl hno.out
              simp only [this]
              rw [if_neg (by omega)])
            have HWW := hide (show ∀ x ∈ wo cur j, x.wf from fun x hx => HCW.out x (by rcases List.mem_append.1 hx with h | h; exact List.mem_of_mem_take h; exact List.mem_of_mem_drop h))
            have HWL := hide (show (wo cur j).length ≤ l.length by rw [wo_len cur j hj2]; omega)
            by_cases hcp : cp = j + 1
            · subst hcp
              have hle : cur.length = j + 1 := by omega
              have hdr0 : cur.drop (j + 1) = [] := List.drop_eq_nil_of_le (by omega)
              have HOO := hide (show ∀ (W : World) v, OwnF W (w.heap.size + 4) v ([] ++ cur.take j ++ []) → OwnF W (w.heap.size + 4) v (wo cur j) from fun W v h => by unfold wo; rw [hdr0]; exact h)
              have hkk : (j : Int) ≤ (j : Int) + 1 := by omega
              have HLE := hide hle
              clear hle hdr0
              go_region_law (first
                | (refine step_append_files rfl (.tmp 49) (.tmp 53) rfl (w.heap.size + 4) _ [] (by first | rfl | simp [Act.eval, Act.put]) own0.out (some ⟨g, fo, none⟩) j (j + 1) (cur.take j) (by first | rfl | simp [Act.eval, Act.put]) fs0.out (by simp; omega) sz0.out ?_; intro v1 w2 o1 g1 k1; have c2 := HQ.out w2 g1)
                | (refine step_append_files rfl (.tmp 54) (.tmp 59) rfl (w.heap.size + 4) v1 ([] ++ cur.take j) (by first | rfl | simp [Act.eval, Act.put]) o1 (some ⟨g, fo, none⟩) 0 0 [] (by first | rfl | simp [Act.eval, Act.put]) ((HN.out w2 g1).take 0 (by omega) _ (by omega)) (by simp; omega) (Nat.le_trans sz0.out g1.size) ?_; intro v2 w3 o2 g2 k2; have o3 := HOO.out w3 v2 o2; have S3 := hide (S2.out.two HB0.out g1 k1 g2 k2 o3); obtain ⟨a2, p2, rfl, hp2, hF2, hB2⟩ := ownF_fs o3 HWW.out; have c3 := S3.out.o.cell (o := 1) rfl; have f3 := S3.out.o.free 1; clear hF2 hB2 o2 o3))
              all_goals
                clear g1 g2 k1 k2 o1 c2 c3 f3
                go_wp2
                go_roundw
                case rel => exact ⟨i + 1, by omega, by go_num, hide ⟨_, wo cur j, HDN.out, HWL.out, HWW.out, S3.out.set 1 _⟩⟩
                case measure => simp [intOf]; omega
            · have hcp' : j + 1 < cp := by omega
              go_region_law (first
                | (refine step_append_files rfl (.tmp 49) (.tmp 53) rfl (w.heap.size + 4) _ [] (by first | rfl | simp [Act.eval, Act.put]) own0.out (some ⟨g, fo, none⟩) j cp (cur.take j) (by first | rfl | simp [Act.eval, Act.put]) fs0.out (by simp; omega) sz0.out ?_; intro v1 w2 o1 g1 k1; have c2 := HQ.out w2 g1)
                | (refine step_append_files rfl (.tmp 54) (.tmp 59) rfl (w.heap.size + 4) v1 ([] ++ cur.take j) (by first | rfl | simp [Act.eval, Act.put]) o1 (some ⟨g, fo + (j + 1) * 2, none⟩) (cur.length - (j + 1)) (cp - (j + 1)) (cur.drop (j + 1)) (by first | rfl | simp [Act.eval, Act.put]) ((HN.out w2 g1).drop (j + 1) (by omega) _ (by omega)) (by simp; omega) (Nat.le_trans sz0.out g1.size) ?_; intro v2 w3 o2 g2 k2; have o3 : OwnF w3 (w.heap.size + 4) v2 (wo cur j) := o2; have S3 := hide (S2.out.two HB0.out g1 k1 g2 k2 o3); obtain ⟨a2, p2, rfl, hp2, hF2, hB2⟩ := ownF_fs o3 HWW.out; have c3 := S3.out.o.cell (o := 1) rfl; have f3 := S3.out.o.free 1; clear hF2 hB2 o2 o3))
              all_goals
                clear g1 g2 k1 k2 o1 c2 c3 f3
                go_wp2
                go_roundw
                case rel => exact ⟨i + 1, by omega, by go_num, hide ⟨_, wo cur j, HDN.out, HWL.out, HWW.out, S3.out.set 1 _⟩⟩
                case measure => simp [intOf]; omega
          · have q : (fN != z) = true := bne_iff_ne.mpr e
            have HN := hide (all_more HF.out (show (fun g : Fi => !(g.N == z)) ⟨fL, fN⟩ = true by simp [e]) hno.out)
            clear e
            go_wp2_with fail
            go_region
            go_wp2
            go_roundw
            case rel => exact ⟨j + 1, by omega, by go_num, HN, hide S2.out.drew⟩
            case measure => simp [intOf]; omega
        · obtain rfl : j = cur.length := by omega
          obtain rfl : r = none := HRN.out (i + 1) (by
            rw [List.take_add_one, HZ.out, Option.toList_some, dropN_end, HDR.out]
            have := atN_none (l := cur) (z := z) (by have := hno.out; rwa [List.take_of_length_le (Nat.le_refl _)] at this)
            simp only [this, if_true])
          have HB := hide st.bel
          have hnn : ((cur.length : Int) == (cur.length : Int)) = true := by simp
          have z0 := st.z.cell (o := 0) rfl
          have z1 := st.z.cell (o := 1) rfl
          have z2 := st.z.cell (o := 2) rfl
          have z3 := st.z.cell (o := 3) rfl
          have z4 := st.z.cell (o := 4) rfl
          have z5 := st.z.cell (o := 5) rfl
          have y0 := st.z.free 0
          have y1 := st.z.free 1
          have y2 := st.z.free 2
          have y3 := st.z.free 3
          have y4 := st.z.free 4
          have y5 := st.z.free 5
          clear hF hB st HRN HRS
          go_wp2_with fail
          go_region
          go_wp2
          have HZS := zset S2.out.z HB.out (by omega) (.int .i64 0) (.slice none 0 0) (.int .u64 0) (.int .u64 0) (.int .u64 0) (.int .u64 0)
          refine bodyPost_ret (apply_results (b := false) HZS.1.drew _ rfl rfl) rfl ?_
          exact ⟨rfl, HZS.2.drew⟩
    · obtain rfl : i = dn := by omega
      have hrs := HRS.out cur (by have := HDR.out; rwa [List.take_of_length_le (by have := HLD.out; omega)] at this)
      have HRX := hide hrs
      have HFA := hide (HA.out wr st.bel)
      have HWA := hide (show ∀ x ∈ cur ++ a, x.wf from fun x hx => by
        rcases List.mem_append.1 hx with h | h
        · exact hwf x h
        · exact HFA.out.2.2.1 x h)
      have hcap : cur.length + a.length ≤ 2000 := by have := HLA.out; omega
      have HCAP := hide hcap
      have hla := HLA.out
      subst hla
      clear hst hdr hwf st hF hB hrs HRN HRS HDR HD HV HA HWF f1
      obtain ⟨NL, hNL⟩ : ∃ n, (cur ++ a).length = n := ⟨_, rfl⟩
      have HNL := hide hNL
      clear hNL
      go_upto_region 13 with (at_builtin; refine wpList_append_files rfl _ _ rfl (w.heap.size + 4) _ cur rfl S.out.own _ a.length ac a rfl HFA.out (by omega) S.out.sz ?_; intro v4 w4 o4 g4 k4; have S4 := hide (S.out.two (Below.refl _ _) g4 k4 (fgb_below (Below.refl _ _) none) (by simp) o4); obtain ⟨a4, p4, hv4, hp4, hF4, hB4⟩ := ownF_fs o4 HWA.out; rw [HNL.out] at hv4; subst hv4; have c1 := S4.out.o.cell (o := 1) rfl; have f1 := S4.out.o.free 1; clear o4 g4 k4 hF4 hB4 e0 e1 q1)
      have S5 := hide (S4.out.set 1 (.slice a4 NL p4))
      generalize w4.setCell ⟨w.heap.size + 1 + 1 + 1, 1, none⟩ (.slice a4 NL p4) = w5 at *
      clear c1 f1
      have x0 : w5.cell? ⟨w.heap.size + 1, 2, none⟩ = some (.int .i64 lg') := S5.out.e.cell rfl
      have y0 : w5.cell? ⟨w.heap.size + 1 + 1 + 1, 0, none⟩ = some (.int .i64 lg) := S5.out.o.cell rfl
      have z0 := S5.out.o.free 0
      go_upto_if 70 with fail
      go_cut [5] from 70 (fun s5 wx => Hid (ASt w wx #[.slice da i dc, .slice aa a.length ac, .int .i64 lg', .int .u64 fl', .int .u64 ct', .int .u64 at9', .int .u64 ls'] #[.int .i64 (put0 lg lg'), .slice a4 NL p4, .int .u64 fl, .int .u64 ct, .int .u64 at9, .int .u64 ls] (.slice a4 NL p4) (cur ++ a)))
      case first =>
        by_cases hq : lg' = 0
        · have q : (lg' != 0) = false := by simp [hq]
          have hp : put0 lg lg' = lg := by unfold put0; rw [if_pos hq]
          have HP := hide hp
          clear hp hq
          go_wp2_with fail
          go_meet
          case rel => exact hide (by rw [HP.out]; exact S5.out)
        · have q : (lg' != 0) = true := by simp [hq]
          have hp : put0 lg lg' = lg' := by unfold put0; rw [if_neg hq]
          have HP := hide hp
          clear hp hq
          go_wp2_with fail
          go_meet
          case rel => exact hide (by rw [HP.out]; exact S5.out.set 0 _)
      case rest =>
        have hsx := hcut
        obtain ⟨w6, hwx⟩ : ∃ x, x = wc := ⟨_, rfl⟩
        subst hwx
        have S6 := hide hsx.out
        clear x0 y0 z0 hsx hcut
        have x1 : w6.cell? ⟨w.heap.size + 1, 3, none⟩ = some (.int .u64 fl') := S6.out.e.cell rfl
        have y1 : w6.cell? ⟨w.heap.size + 1 + 1 + 1, 2, none⟩ = some (.int .u64 fl) := S6.out.o.cell rfl
        have z1 := S6.out.o.free 2
        go_upto_if 76 with fail
        go_cut [5] from 76 (fun s5 wx => Hid (ASt w wx #[.slice da i dc, .slice aa a.length ac, .int .i64 lg', .int .u64 fl', .int .u64 ct', .int .u64 at9', .int .u64 ls'] #[.int .i64 (put0 lg lg'), .slice a4 NL p4, .int .u64 (put0 fl fl'), .int .u64 ct, .int .u64 at9, .int .u64 ls] (.slice a4 NL p4) (cur ++ a)))
        case first =>
          by_cases hq : fl' = 0
          · have q : (fl' != 0) = false := by simp [hq]
            have hp : put0 fl fl' = fl := by unfold put0; rw [if_pos hq]
            have HP := hide hp
            clear hp hq
            go_wp2_with fail
            go_meet
            case rel => exact hide (by rw [HP.out]; exact S6.out)
          · have q : (fl' != 0) = true := by simp [hq]
            have hp : put0 fl fl' = fl' := by unfold put0; rw [if_neg hq]
            have HP := hide hp
            clear hp hq
            go_wp2_with fail
            go_meet
            case rel => exact hide (by rw [HP.out]; exact S6.out.set 2 _)
        case rest =>
          have hsx := hcut
          obtain ⟨w7, hwx⟩ : ∃ x, x = wc := ⟨_, rfl⟩
          subst hwx
          have S7 := hide hsx.out
          clear x1 y1 z1 hsx hcut
          have x2 : w7.cell? ⟨w.heap.size + 1, 4, none⟩ = some (.int .u64 ct') := S7.out.e.cell rfl
          have y2 : w7.cell? ⟨w.heap.size + 1 + 1 + 1, 3, none⟩ = some (.int .u64 ct) := S7.out.o.cell rfl
          have z2 := S7.out.o.free 3
          go_upto_if 82 with fail
          go_cut [5] from 82 (fun s5 wx => Hid (ASt w wx #[.slice da i dc, .slice aa a.length ac, .int .i64 lg', .int .u64 fl', .int .u64 ct', .int .u64 at9', .int .u64 ls'] #[.int .i64 (put0 lg lg'), .slice a4 NL p4, .int .u64 (put0 fl fl'), .int .u64 (put0 ct ct'), .int .u64 at9, .int .u64 ls] (.slice a4 NL p4) (cur ++ a)))
          case first =>
            by_cases hq : ct' = 0
            · have q : (ct' != 0) = false := by simp [hq]
              have hp : put0 ct ct' = ct := by unfold put0; rw [if_pos hq]
              have HP := hide hp
              clear hp hq
              go_wp2_with fail
              go_meet
              case rel => exact hide (by rw [HP.out]; exact S7.out)
            · have q : (ct' != 0) = true := by simp [hq]
              have hp : put0 ct ct' = ct' := by unfold put0; rw [if_neg hq]
              have HP := hide hp
              clear hp hq
              go_wp2_with fail
              go_meet
              case rel => exact hide (by rw [HP.out]; exact S7.out.set 3 _)
          case rest =>
            have hsx := hcut
            obtain ⟨w8, hwx⟩ : ∃ x, x = wc := ⟨_, rfl⟩
            subst hwx
            have S8 := hide hsx.out
            clear x2 y2 z2 hsx hcut
            have x3 : w8.cell? ⟨w.heap.size + 1, 5, none⟩ = some (.int .u64 at9') := S8.out.e.cell rfl
            have y3 : w8.cell? ⟨w.heap.size + 1 + 1 + 1, 4, none⟩ = some (.int .u64 at9) := S8.out.o.cell rfl
            have z3 := S8.out.o.free 4
            go_upto_if 88 with fail
            go_cut [5] from 88 (fun s5 wx => Hid (ASt w wx #[.slice da i dc, .slice aa a.length ac, .int .i64 lg', .int .u64 fl', .int .u64 ct', .int .u64 at9', .int .u64 ls'] #[.int .i64 (put0 lg lg'), .slice a4 NL p4, .int .u64 (put0 fl fl'), .int .u64 (put0 ct ct'), .int .u64 (put0 at9 at9'), .int .u64 ls] (.slice a4 NL p4) (cur ++ a)))
            case first =>
              by_cases hq : at9' = 0
              · have q : (at9' != 0) = false := by simp [hq]
                have hp : put0 at9 at9' = at9 := by unfold put0; rw [if_pos hq]
                have HP := hide hp
                clear hp hq
                go_wp2_with fail
                go_meet
                case rel => exact hide (by rw [HP.out]; exact S8.out)
              · have q : (at9' != 0) = true := by simp [hq]
                have hp : put0 at9 at9' = at9' := by unfold put0; rw [if_neg hq]
                have HP := hide hp
                clear hp hq
                go_wp2_with fail
                go_meet
                case rel => exact hide (by rw [HP.out]; exact S8.out.set 4 _)
            case rest =>
              have hsx := hcut
              obtain ⟨w9, hwx⟩ : ∃ x, x = wc := ⟨_, rfl⟩
              subst hwx
              have S9 := hide hsx.out
              clear x3 y3 z3 hsx hcut
              have x4 : w9.cell? ⟨w.heap.size + 1, 6, none⟩ = some (.int .u64 ls') := S9.out.e.cell rfl
              have y4 : w9.cell? ⟨w.heap.size + 1 + 1 + 1, 5, none⟩ = some (.int .u64 ls) := S9.out.o.cell rfl
              have z4 := S9.out.o.free 5
              go_upto_if 94 with fail
              go_cut [5] from 94 (fun s5 wx => Hid (ASt w wx #[.slice da i dc, .slice aa a.length ac, .int .i64 lg', .int .u64 fl', .int .u64 ct', .int .u64 at9', .int .u64 ls'] #[.int .i64 (put0 lg lg'), .slice a4 NL p4, .int .u64 (put0 fl fl'), .int .u64 (put0 ct ct'), .int .u64 (put0 at9 at9'), .int .u64 (put0 ls ls')] (.slice a4 NL p4) (cur ++ a)))
              case first =>
                by_cases hq : ls' = 0
                · have q : (ls' != 0) = false := by simp [hq]
                  have hp : put0 ls ls' = ls := by unfold put0; rw [if_pos hq]
                  have HP := hide hp
                  clear hp hq
                  go_wp2_with fail
                  go_meet
                  case rel => exact hide (by rw [HP.out]; exact S9.out)
                · have q : (ls' != 0) = true := by simp [hq]
                  have hp : put0 ls ls' = ls' := by unfold put0; rw [if_neg hq]
                  have HP := hide hp
                  clear hp hq
                  go_wp2_with fail
                  go_meet
                  case rel => exact hide (by rw [HP.out]; exact S9.out.set 5 _)
              case rest =>
                have hsx := hcut
                obtain ⟨w10, hwx⟩ : ∃ x, x = wc := ⟨_, rfl⟩
                subst hwx
                have S10 := hide hsx.out
                clear x4 y4 z4 hsx hcut
                obtain ⟨V2, hV2⟩ : ∃ V : Vw, after ⟨lg, l, fl, ct, at9, ls⟩ ⟨d, a, lg', fl', ct', at9', ls'⟩ cur = V := ⟨_, rfl⟩
                have e0 : put0 lg lg' = V2.lg := by rw [← hV2]; rfl
                have e1 : cur ++ a = V2.f := by rw [← hV2]; rfl
                have efl : put0 fl fl' = V2.fl := by rw [← hV2]; rfl
                have ect : put0 ct ct' = V2.ct := by rw [← hV2]; rfl
                have eat9 : put0 at9 at9' = V2.at9 := by rw [← hV2]; rfl
                have els : put0 ls ls' = V2.ls := by rw [← hV2]; rfl
                have S11 := S10.out
                rw [e0, efl, ect, eat9, els, e1] at S11
                have hrx := HRX.out
                rw [hV2] at hrx
                have hnl : V2.f.length = NL := by rw [← e1]; exact HNL.out
                rw [← hnl] at S11 ⊢
                have hwa := HWA.out
                rw [e1] at hwa
                have hcp := HCAP.out
                rw [← List.length_append, e1] at hcp
                have hfs := ownF_fsN S11.own hwa rfl
                have S := hide S11
                have HRX := hide hrx
                have HWV := hide hwa
                have HFS := hide hfs.2
                have CV := hide (viewok_any a4 V2.f.length p4 V2 w10 hfs.2 (by omega))
                have c0 : w10.cell? ⟨w.heap.size + 1 + 1 + 1, 0, none⟩ = some (.int .i64 V2.lg) := S11.o.cell rfl
                have c1 : w10.cell? ⟨w.heap.size + 1 + 1 + 1, 1, none⟩ = some (.slice a4 V2.f.length p4) := S11.o.cell rfl
                have c2 : w10.cell? ⟨w.heap.size + 1 + 1 + 1, 2, none⟩ = some (.int .u64 V2.fl) := S11.o.cell rfl
                have c3 : w10.cell? ⟨w.heap.size + 1 + 1 + 1, 3, none⟩ = some (.int .u64 V2.ct) := S11.o.cell rfl
                have c4 : w10.cell? ⟨w.heap.size + 1 + 1 + 1, 4, none⟩ = some (.int .u64 V2.at9) := S11.o.cell rfl
                have c5 : w10.cell? ⟨w.heap.size + 1 + 1 + 1, 5, none⟩ = some (.int .u64 V2.ls) := S11.o.cell rfl
                unfold vwV at CV
                clear hnl e0 e1 efl ect eat9 els S11 hrx hwa hfs hV2
                go_wp2_with fail
                refine CV.out.mono ?_
                rintro e y ⟨rfl, hby⟩
                have hz := S.out.z.below hby S.out.z.lt
                have ho := S.out.o.below hby S.out.o.lt
                have HZ := hide hz
                have HBY := hide (S.out.bel.trans (hby.mono S.out.bel.size))
                have HOY := hide (ownF_keep S.out.own hby)
                have hly := hz.lt
                have hlo := ho.lt
                have z0 : y.cell? ⟨w.heap.size + 1 + 1, 0, none⟩ = some (.int .i64 0) := hz.cell rfl
                have y0 : y.frozen? ⟨w.heap.size + 1 + 1, 0, none⟩ = false := hz.free 0
                have z1 : y.cell? ⟨w.heap.size + 1 + 1, 1, none⟩ = some (.slice none 0 0) := hz.cell rfl
                have y1 : y.frozen? ⟨w.heap.size + 1 + 1, 1, none⟩ = false := hz.free 1
                have z2 : y.cell? ⟨w.heap.size + 1 + 1, 2, none⟩ = some (.int .u64 0) := hz.cell rfl
                have y2 : y.frozen? ⟨w.heap.size + 1 + 1, 2, none⟩ = false := hz.free 2
                have z3 : y.cell? ⟨w.heap.size + 1 + 1, 3, none⟩ = some (.int .u64 0) := hz.cell rfl
                have y3 : y.frozen? ⟨w.heap.size + 1 + 1, 3, none⟩ = false := hz.free 3
                have z4 : y.cell? ⟨w.heap.size + 1 + 1, 4, none⟩ = some (.int .u64 0) := hz.cell rfl
                have y4 : y.frozen? ⟨w.heap.size + 1 + 1, 4, none⟩ = false := hz.free 4
                have z5 : y.cell? ⟨w.heap.size + 1 + 1, 5, none⟩ = some (.int .u64 0) := hz.cell rfl
                have y5 : y.frozen? ⟨w.heap.size + 1 + 1, 5, none⟩ = false := hz.free 5
                obtain ⟨ok, hok⟩ : ∃ o, vok V2 = o := ⟨_, rfl⟩
                rw [hok] at HRX ⊢
                clear CV hby hz c0 c1 c2 c3 c4 c5 hok
                cases ok with
                | false =>
                  obtain rfl : r = none := by have := HRX.out; rw [if_neg (by simp)] at this; exact this
                  clear ho
                  go_wp2
                  have HZS := zset HZ.out HBY.out (by omega) (.int .i64 0) (.slice none 0 0) (.int .u64 0) (.int .u64 0) (.int .u64 0) (.int .u64 0)
                  refine bodyPost_ret (apply_results (b := false) HZS.1 _ rfl rfl) rfl ?_
                  exact ⟨rfl, HZS.2⟩
                | true =>
                  obtain rfl : r = some V2 := by have := HRX.out; rw [if_pos rfl] at this; exact this
                  have c0 : y.cell? ⟨w.heap.size + 1 + 1 + 1, 0, none⟩ = some (.int .i64 V2.lg) := ho.cell rfl
                  have c1 : y.cell? ⟨w.heap.size + 1 + 1 + 1, 1, none⟩ = some (.slice a4 V2.f.length p4) := ho.cell rfl
                  have c2 : y.cell? ⟨w.heap.size + 1 + 1 + 1, 2, none⟩ = some (.int .u64 V2.fl) := ho.cell rfl
                  have c3 : y.cell? ⟨w.heap.size + 1 + 1 + 1, 3, none⟩ = some (.int .u64 V2.ct) := ho.cell rfl
                  have c4 : y.cell? ⟨w.heap.size + 1 + 1 + 1, 4, none⟩ = some (.int .u64 V2.at9) := ho.cell rfl
                  have c5 : y.cell? ⟨w.heap.size + 1 + 1 + 1, 5, none⟩ = some (.int .u64 V2.ls) := ho.cell rfl
                  clear ho
                  go_wp2
                  have HZS := zset HZ.out HBY.out (by omega) (.int .i64 V2.lg) (.slice a4 V2.f.length p4) (.int .u64 V2.fl) (.int .u64 V2.ct) (.int .u64 V2.at9) (.int .u64 V2.ls)
                  refine bodyPost_ret (apply_results (b := true) HZS.1 _ rfl rfl) rfl ?_
                  have hg := gset6a y (w.heap.size + 1 + 1) (.int .i64 V2.lg) (.slice a4 V2.f.length p4) (.int .u64 V2.fl) (.int .u64 V2.ct) (.int .u64 V2.at9) (.int .u64 V2.ls)
                  have h6 := ownF_grown HOY.out hg (fun k hk => by have := Option.some.inj hk; omega)
                  exact ⟨⟨a4, p4, rfl, ownF_base h6 (by omega), (ownF_fsN h6 HWV.out rfl).2⟩, HZS.2⟩

end Go.Proofs.Ytgopcaemgcnapaa.Clep

/- What the document's own Unframe (package clepsydraref1) does when called: for any text of at most a million bytes, any place. -/
namespace Go.Proofs.Ytgopcaemgcnapaa.Clep
open Go.RowKit
set_option linter.unusedVariables false
set_option maxRecDepth 10000

theorem str_cut (zs : List Int) (a b : Nat) (h : b ≤ zs.length) : (strOfNums zs).extract a b = strOfNums ((zs.take b).drop a) := by
  apply ByteArray.ext
  simp [strOfNums, List.map_take, List.map_drop, List.drop_take]

theorem unframe_arg (s : ByteArray) (p : Int) (w : World) (hm : s.size ≤ 1000000) (hp : p < 0 ∨ (s.size : Int) < p) :
    Calls Try.prog 51 #[.string s, .int .i64 p] w fun e w' => e = .returned (.tuple #[.int .i64 0, .string ⟨#[]⟩, .int .i64 0, .int .i64 1]) ∧ w' = w := by
  go_enter Try.func51, Try.ntmps51
  rcases hp with hp | hp
  · go_wp2
    refine bodyPost_ret (by simp [results, Try.results51, go_sem]) rfl ⟨rfl, rfl⟩
  · have hp2 : ¬ p < 0 := by omega
    go_wp2
    refine bodyPost_ret (by simp [results, Try.results51, go_sem]) rfl ⟨rfl, rfl⟩
theorem unframe_short (s : ByteArray) (P : Nat) (w : World) (hm : s.size ≤ 1000000) (hp : P ≤ s.size) (h8 : s.size < P + 8) :
    Calls Try.prog 51 #[.string s, .int .i64 P] w fun e w' => e = .returned (.tuple #[.int .i64 0, .string ⟨#[]⟩, .int .i64 0, .int .i64 4]) ∧ w' = w := by
  go_enter Try.func51, Try.ntmps51
  go_wp2
  refine bodyPost_ret (by simp [results, Try.results51, go_sem]) rfl ⟨rfl, rfl⟩

theorem refopen_err (Y : List Int) (w : World) (n : Nat) (hn : Y.length = n + 4) (hm : n ≤ 1000000) (hr : ByteL Y) :
    Calls Try.prog 65 #[.string (strOfNums Y)] w fun e w' => Below w.heap.size w w' ∧ e = .returned (.tuple #[.string (if nn (Y.drop n) = crc (Y.take n) then strOfNums (Y.take n) else ⟨#[]⟩), .int .i64 (if nn (Y.drop n) = crc (Y.take n) then 0 else 5)]) := by
  refine (refopen_long (strOfNums Y) Y w n rfl hn hm hr).mono ?_
  rintro e w1 ⟨hb, ⟨hg, he⟩ | ⟨hg, he⟩⟩
  · exact ⟨hb, by rw [he, if_pos (show nn (Y.drop n) = crc (Y.take n) from hg), if_pos (show nn (Y.drop n) = crc (Y.take n) from hg)]⟩
  · exact ⟨hb, by rw [he, if_neg (show ¬ nn (Y.drop n) = crc (Y.take n) from hg), if_neg (show ¬ nn (Y.drop n) = crc (Y.take n) from hg)]⟩

/-- What Unframe tells of the frame that X begins with. -/
def un (X : List Int) (P : Nat) : Value := if ce X = 0 then .tuple #[.int .i64 (kd X), .string (strOfNums (bo X)), .int .i64 (P + 12 + ln X), .int .i64 0] else .tuple #[.int .i64 0, .string ⟨#[]⟩, .int .i64 0, .int .i64 (ce X)]

set_option maxHeartbeats 400000 in
theorem unframe_long (zs : List Int) (P : Nat) (w : World) (hm : zs.length ≤ 1000000) (hr : ByteL zs) (h8 : P + 8 ≤ zs.length) (X : List Int) (hX : X = zs.drop P) :
    Calls Try.prog 51 #[.string (strOfNums zs), .int .i64 P] w fun e w' => e = .returned (un X P) ∧ Below w.heap.size w w' := by
  have hs : (strOfNums zs).size = zs.length := str_size zs
  have hXl : X.length = zs.length - P := by rw [hX, List.length_drop]
  have hXr : ByteL X := by rw [hX]; exact ByteL.drop hr P
  have hlr := ln_range X (range_of hXr)
  have hn8 : ¬ X.length < 8 := by omega
  have hce : ce X = if he X ≠ 0 then he X else if kd X < 1 ∨ 100 < kd X ∨ 60000 < ln X then 3 else if X.length < (ln X).toNat + 12 then 4 else be X := by unfold ce; rw [if_neg hn8]
  have HC := hide hce
  have e1 : (strOfNums zs).extract P (P + 8) = strOfNums (X.take 8) := by
    rw [str_cut zs P (P + 8) h8, List.drop_take, show P + 8 - P = 8 from by omega, hX]
  have C1 := hide (fun W => refopen_err (X.take 8) W 4 (by rw [List.length_take]; omega) (by omega) (ByteL.take hXr 8))
  rw [show (if nn ((X.take 8).drop 4) = crc ((X.take 8).take 4) then (0 : Int) else 5) = he X from rfl] at C1
  have hT := sz_of ((X.take 8).take 4) (range_of (ByteL.take (ByteL.take hXr 8) 4))
  have ht4 : (strOfNums ((X.take 8).take 4)).size = 4 := by rw [str_size, List.length_take, List.length_take]; omega
  have v0 : ((X.take 8).take 4).getD 0 0 = kd X := by unfold kd; simp [List.getD]
  have v1 : ((X.take 8).take 4).getD 1 0 = X.getD 1 0 := by simp [List.getD]
  have v2 : ((X.take 8).take 4).getD 2 0 = X.getD 2 0 := by simp [List.getD]
  have v3 : ((X.take 8).take 4).getD 3 0 = X.getD 3 0 := by simp [List.getD]
  have r1 := range_of hXr 1
  have r2 := range_of hXr 2
  have r3 := range_of hXr 3
  have r0 := range_of hXr 0
  have hbits := head_bits _ _ _ r1 r2 r3
  rw [show X.getD 1 0 * 65536 + X.getD 2 0 * 256 + X.getD 3 0 = ln X from rfl] at hbits
  by_cases h1 : he X = 0
  · have hq : (if nn ((X.take 8).drop 4) = crc ((X.take 8).take 4) then strOfNums ((X.take 8).take 4) else ⟨#[]⟩) = strOfNums ((X.take 8).take 4) := by
      rcases Classical.em (nn ((X.take 8).drop 4) = crc ((X.take 8).take 4)) with h | h
      · rw [if_pos h]
      · unfold he at h1; rw [if_neg h] at h1; cases h1
    rw [hq, h1] at C1
    have HC1 := hide (show ce X = if kd X < 1 ∨ 100 < kd X ∨ 60000 < ln X then 3 else if X.length < (ln X).toNat + 12 then 4 else be X by rw [HC.out, if_neg (by simp [h1])])
    have r0' : 0 ≤ kd X ∧ kd X < 256 := r0
    clear r0
    have cK := hide (fun W => frameok_any (kd X) (ln X) W)
    have C3 : (ln X).toNat + 12 ≤ zs.length - P → Hid (∀ W, Calls Try.prog 65 #[.string (strOfNums (bd X))] W fun e w' => Below W.heap.size W w' ∧ e = .returned (.tuple #[.string (if be X = 0 then strOfNums (bo X) else ⟨#[]⟩), .int .i64 (be X)])) := fun hl => hide fun W => by
      have := refopen_err (bd X) W (ln X).toNat (by unfold bd; rw [List.length_drop, List.length_take]; omega) (by omega) (by unfold bd; exact ByteL.drop (ByteL.take hXr _) _)
      have e5 : (if be X = 0 then strOfNums (bo X) else ⟨#[]⟩) = (if nn ((bd X).drop (ln X).toNat) = crc ((bd X).take (ln X).toNat) then strOfNums ((bd X).take (ln X).toNat) else ⟨#[]⟩) := by
        unfold be bo
        split
        · exact if_pos rfl
        · exact if_neg (by decide)
      rw [e5]
      exact this
    have E3 : (ln X).toNat + 12 ≤ zs.length - P → (strOfNums zs).extract (P + 8) (P + 12 + (ln X).toNat) = strOfNums (bd X) := fun hl => by
      rw [str_cut zs _ _ (by omega)]
      congr 1
      unfold bd
      rw [hX, ← List.drop_drop, List.drop_take, show P + 12 + (ln (zs.drop P)).toNat - P = (ln (zs.drop P)).toNat + 12 from by omega]
    clear HC hq hX h1 hr hce
    generalize strOfNums ((X.take 8).take 4) = H4 at *
    have g0 := hT.2 0 (by rw [ht4]; omega)
    have g1 := hT.2 1 (by rw [ht4]; omega)
    have g2 := hT.2 2 (by rw [ht4]; omega)
    have g3 := hT.2 3 (by rw [ht4]; omega)
    rw [v0] at g0
    rw [v1] at g1
    rw [v2] at g2
    rw [v3] at g3
    clear hT v0 v1 v2 v3
    generalize strOfNums (X.take 8) = S8 at *
    generalize strOfNums (bd X) = SD at *
    generalize hbo : strOfNums (bo X) = SO at *
    generalize strOfNums zs = S at *
    generalize X.getD 1 0 = z1 at *
    generalize X.getD 2 0 = z2 at *
    generalize X.getD 3 0 = z3 at *
    by_cases hk : kd X < 1 ∨ 100 < kd X ∨ 60000 < ln X
    · have H5 := hide (show ce X = 3 by rw [HC1.out, if_pos hk])
      have HU := hide (show un X P = .tuple #[.int .i64 0, .string ⟨#[]⟩, .int .i64 0, .int .i64 3] by unfold un; rw [if_neg (by rw [H5.out]; decide), H5.out])
      have hfk : fk (kd X) (ln X) = 1 ∨ fk (kd X) (ln X) = 2 := by
        unfold fk; split
        · exact .inl rfl
        · rename_i h; rw [if_pos (by omega)]; exact .inr rfl
      generalize fk (kd X) (ln X) = FK at *
      have hfk0 : ¬ FK = 0 := by omega
      generalize kd X = KD at *
      generalize ln X = LN at *
      clear C3 E3 HC1 hk hfk
      go_enter Try.func51, Try.ntmps51
      go_wp2_with fail
      refine (C1.out _).mono ?_
      rintro e w1 ⟨hb, rfl⟩
      have HB := hide hb
      clear hb C1
      go_wp2_with fail
      go_region
      go_wp2_with fail
      refine (cK.out _).mono ?_
      rintro e w2 ⟨rfl, hw2⟩
      have HB2 := hide (show Below w.heap.size w w2 by rw [hw2]; exact HB.out.drew)
      clear hw2
      go_wp2
      refine bodyPost_ret (by simp [results, Try.results51, go_sem]; rfl) rfl ⟨by rw [HU.out], HB2.out⟩
    · have HC2 := hide (show ce X = if X.length < (ln X).toNat + 12 then 4 else be X by rw [HC1.out, if_neg hk])
      have hk1 : ¬ kd X < 1 := by omega
      have hk2 : ¬ 100 < kd X := by omega
      have hk3 : ¬ 60000 < ln X := by omega
      rw [show fk (kd X) (ln X) = 0 from by unfold fk; rw [if_neg (by omega), if_neg hk3]] at cK
      clear HC1 hk
      by_cases hl : X.length < (ln X).toNat + 12
      · have H5 := hide (show ce X = 4 by rw [HC2.out, if_pos hl])
        have HU := hide (show un X P = .tuple #[.int .i64 0, .string ⟨#[]⟩, .int .i64 0, .int .i64 4] by unfold un; rw [if_neg (by rw [H5.out]; decide), H5.out])
        clear C3 E3 HC2
        have hlt : (zs.length : Int) - (P : Int) - 8 < ln X + 4 := by omega
        generalize kd X = KD at *
        generalize ln X = LN at *
        go_enter Try.func51, Try.ntmps51
        go_wp2_with fail
        refine (C1.out _).mono ?_
        rintro e w1 ⟨hb, rfl⟩
        have HB := hide hb
        clear hb C1
        go_wp2_with fail
        go_region
        go_wp2_with fail
        refine (cK.out _).mono ?_
        rintro e w2 ⟨rfl, hw2⟩
        have HB2 := hide (show Below w.heap.size w w2 by rw [hw2]; exact HB.out.drew)
        clear hw2 HB cK
        go_wp2
        refine bodyPost_ret (by simp [results, Try.results51, go_sem]; rfl) rfl ⟨by rw [HU.out], HB2.out⟩
      · have H5 := hide (show ce X = be X by rw [HC2.out, if_neg hl])
        have c3 := C3 (by omega)
        have e3 := E3 (by omega)
        have HU := hide (show un X P = if be X = 0 then .tuple #[.int .i64 (kd X), .string SO, .int .i64 (P + 12 + ln X), .int .i64 0] else .tuple #[.int .i64 0, .string ⟨#[]⟩, .int .i64 0, .int .i64 (be X)] by unfold un; rw [H5.out, hbo])
        clear C3 E3 HC2 H5 hbo
        generalize be X = E at *
        generalize kd X = KD at *
        generalize ln X = LN at *
        obtain ⟨N, rfl⟩ := Int.eq_ofNat_of_zero_le hlr.1
        simp only [Int.toNat_natCast] at e3 hl
        have hge : ¬ (zs.length : Int) - (P : Int) - 8 < (N : Int) + 4 := by omega
        have hPN : P + 12 + N ≤ zs.length := by omega
        by_cases hE : E = 0
        · rw [if_pos hE] at HU c3
          subst hE
          go_enter Try.func51, Try.ntmps51
          go_wp2_with fail
          refine (C1.out _).mono ?_
          rintro e w1 ⟨hb, rfl⟩
          have HB := hide hb
          clear hb C1
          go_wp2_with fail
          go_region
          go_wp2_with fail
          refine (cK.out _).mono ?_
          rintro e w2 ⟨rfl, hw2⟩
          have HB2 := hide (show Below w.heap.size w w2 by rw [hw2]; exact HB.out.drew)
          clear hw2 HB cK
          go_wp2_with fail
          refine (c3.out _).mono ?_
          rintro e w3 ⟨hb3, rfl⟩
          have HB3 := hide (HB2.out.trans (hb3.mono HB2.out.size))
          clear hb3 c3
          go_wp2
          refine bodyPost_ret (by simp [results, Try.results51, go_sem]; rfl) rfl ⟨by rw [HU.out], HB3.out⟩
        · rw [if_neg hE] at HU c3
          go_enter Try.func51, Try.ntmps51
          go_wp2_with fail
          refine (C1.out _).mono ?_
          rintro e w1 ⟨hb, rfl⟩
          have HB := hide hb
          clear hb C1
          go_wp2_with fail
          go_region
          go_wp2_with fail
          refine (cK.out _).mono ?_
          rintro e w2 ⟨rfl, hw2⟩
          have HB2 := hide (show Below w.heap.size w w2 by rw [hw2]; exact HB.out.drew)
          clear hw2 HB cK
          go_wp2_with fail
          refine (c3.out _).mono ?_
          rintro e w3 ⟨hb3, rfl⟩
          have HB3 := hide (HB2.out.trans (hb3.mono HB2.out.size))
          clear hb3 c3
          go_wp2
          refine bodyPost_ret (by simp [results, Try.results51, go_sem]; rfl) rfl ⟨by rw [HU.out], HB3.out⟩
  · have hu : un X P = .tuple #[.int .i64 0, .string ⟨#[]⟩, .int .i64 0, .int .i64 (he X)] := by
      have h5 : ce X = he X := by rw [HC.out, if_pos h1]
      unfold un; rw [if_neg (by rw [h5]; exact h1), h5]
    have HU := hide hu
    have hq : (if nn ((X.take 8).drop 4) = crc ((X.take 8).take 4) then strOfNums ((X.take 8).take 4) else ⟨#[]⟩) = ⟨#[]⟩ := by
      rw [if_neg (fun h => h1 (by unfold he; rw [if_pos h]))]
    rw [hq] at C1
    clear hu hq hbits v0 v1 v2 v3 hT ht4 HC hce
    generalize he X = E at *
    generalize strOfNums (X.take 8) = S8 at *
    generalize strOfNums zs = S at *
    go_enter Try.func51, Try.ntmps51
    go_wp2_with fail
    refine (C1.out _).mono ?_
    rintro e w1 ⟨hb, rfl⟩
    have HB := hide hb
    clear hb C1
    go_wp2
    refine bodyPost_ret (by simp [results, Try.results51, go_sem]; rfl) rfl ⟨by rw [HU.out], HB.out⟩

theorem unframe_any (zs : List Int) (P : Nat) (w : World) (hm : zs.length ≤ 1000000) (hr : ByteL zs) (hP : P ≤ zs.length) :
    Calls Try.prog 51 #[.string (strOfNums zs), .int .i64 P] w fun e w' => e = .returned (un (zs.drop P) P) ∧ Below w.heap.size w w' := by
  by_cases h8 : zs.length < P + 8
  · have hc : ce (zs.drop P) = 4 := by unfold ce; rw [if_pos (by rw [List.length_drop]; omega)]
    have hu : un (zs.drop P) P = .tuple #[.int .i64 0, .string ⟨#[]⟩, .int .i64 0, .int .i64 4] := by unfold un; rw [if_neg (by rw [hc]; decide), hc]
    rw [hu]
    refine (unframe_short (strOfNums zs) P w (by rw [str_size]; omega) (by rw [str_size]; omega) (by rw [str_size]; omega)).mono ?_
    rintro e w1 ⟨he, rfl⟩
    exact ⟨he, Below.refl _ _⟩
  · exact unframe_long zs P w hm hr (by omega) _ rfl

end Go.Proofs.Ytgopcaemgcnapaa.Clep

/- What the document's own ReplayEdits does when called (a walk over the translated program): for any text of at most a million bytes. Written by wip/tools/gen15refreplay.py. -/
namespace Go.Proofs.Ytgopcaemgcnapaa.Clep
open Go.RowKit
set_option linter.unusedVariables false
set_option maxRecDepth 10000

theorem rda_form2 {X : List Int} {w : World} {e : Ending} {w' : World} (h : RdA (red X) w e w') : ∃ da dn dc aa an ac, e = .returned (.tuple #[edV da dn dc aa an ac ((red X).getD zE), .int .i64 (if (red X).isSome = true then 0 else 3)]) ∧ Zs w' da dn dc ((red X).getD zE).d ∧ Fs w' aa an ac ((red X).getD zE).a ∧ dn ≤ 40 ∧ an ≤ 40 ∧ Below w.heap.size w w' := by
  cases hr : red X with
  | none =>
    rw [hr] at h
    obtain ⟨h1, h2⟩ := h
    exact ⟨none, 0, 0, none, 0, 0, h1, zs_nil _, fs_nil _, by omega, by omega, h2⟩
  | some E =>
    have hl := (emay_parts (red_may hr)).1
    rw [hr] at h
    obtain ⟨⟨da, dc, aa, ac, h1, h2, h3⟩, h4⟩ := h
    exact ⟨da, _, dc, aa, _, ac, h1, h2, h3, hl.1, hl.2, h4⟩
theorem rreplay_results {w : World} {R : Nat} {A B C D E n e : Int} {v : Value} (h : Ek w R #[.int .i64 A, v, .int .u64 B, .int .u64 C, .int .u64 D, .int .u64 E] 26) (ts : Array Value) (h2 : ts.getD 2 undef = .pointer (some ⟨R, 0, none⟩)) (h3 : ts.getD 3 undef = .int .i64 n) (h4 : ts.getD 4 undef = .int .i64 e) :
    (results Try.f24 ts).run Try.prog w = .ok (.tuple #[.agg #[.int .i64 A, v, .int .u64 B, .int .u64 C, .int .u64 D, .int .u64 E], .int .i64 n, .int .i64 e]) w := by
  have c0 := h.cell (o := 0) rfl
  have c1 := h.cell (o := 1) rfl
  have c2 := h.cell (o := 2) rfl
  have c3 := h.cell (o := 3) rfl
  have c4 := h.cell (o := 4) rfl
  have c5 := h.cell (o := 5) rfl
  rw [Array.getD_eq_getD_getElem?] at h2 h3 h4
  simp [results, Try.results24, go_sem, c0, c1, c2, c3, c4, c5, h2, h3, h4]
/-- Between the rounds of ReplayEdits. -/
structure Rz (w W : World) (V : Vw) (a : Option Addr) (c : Nat) : Prop where
  z : Ek W w.heap.size #[.int .i64 0, .slice none 0 0, .int .u64 0, .int .u64 0, .int .u64 0, .int .u64 0] 26
  x : Ek W (w.heap.size + 1) #[.int .i64 V.lg, .slice a V.f.length c, .int .u64 V.fl, .int .u64 V.ct, .int .u64 V.at9, .int .u64 V.ls] 26
  f : OwnF W (w.heap.size + 2) (.slice a V.f.length c) V.f
  wf : ∀ x ∈ V.f, x.wf
  bel : Below w.heap.size w W
  sz : w.heap.size + 2 ≤ W.heap.size
theorem Rz.keep {w W W' : World} {V : Vw} {a : Option Addr} {c : Nat} (h : Rz w W V a c) (hb : Below W.heap.size W W') : Rz w W' V a c :=
  ⟨h.z.below hb h.z.lt, h.x.below hb h.x.lt, ownF_keep h.f hb, h.wf, h.bel.trans (hb.mono h.bel.size), Nat.le_trans h.sz hb.size⟩
theorem Rz.fs {w W : World} {V : Vw} {a : Option Addr} {c : Nat} (h : Rz w W V a c) : c ≤ 9223372036854775807 ∧ Fs W a V.f.length c V.f := by
  obtain ⟨a8, c8, e8, hc, hf, _⟩ := ownF_fs h.f h.wf
  injection e8 with e8 _ e9
  subst e8 e9
  exact ⟨hc, hf⟩
/-- Another View in its place. -/
theorem Rz.put {w W : World} {V U : Vw} {a a' : Option Addr} {c c' : Nat} (h : Rz w W V a c) (hf : OwnF W (w.heap.size + 2) (.slice a' U.f.length c') U.f) (hw : ∀ x ∈ U.f, x.wf) : Rz w (set6 W (w.heap.size + 1) (.int .i64 U.lg) (.slice a' U.f.length c') (.int .u64 U.fl) (.int .u64 U.ct) (.int .u64 U.at9) (.int .u64 U.ls)) U a' c' := by
  have hg := gset6 W (w.heap.size + 1) (.int .i64 U.lg) (.slice a' U.f.length c') (.int .u64 U.fl) (.int .u64 U.ct) (.int .u64 U.at9) (.int .u64 U.ls)
  have hz := zset h.x h.bel (Nat.le_succ _) (.int .i64 U.lg) (.slice a' U.f.length c') (.int .u64 U.fl) (.int .u64 U.ct) (.int .u64 U.at9) (.int .u64 U.ls)
  refine ⟨h.z.gb hg (fun e => ?_), hz.1, ownF_grown hf hg (fun k hk => ?_), hw, hz.2, Nat.le_trans h.sz hg.size⟩
  · have : w.heap.size = w.heap.size + 1 := Option.some.inj e; omega
  · have : w.heap.size + 1 = k := Option.some.inj hk; omega
/-- The View put where the answer is. -/
theorem Rz.ret {w W : World} {V : Vw} {a : Option Addr} {c : Nat} (h : Rz w W V a c) : Ek (set6 W w.heap.size (.int .i64 V.lg) (.slice a V.f.length c) (.int .u64 V.fl) (.int .u64 V.ct) (.int .u64 V.at9) (.int .u64 V.ls)) w.heap.size #[.int .i64 V.lg, .slice a V.f.length c, .int .u64 V.fl, .int .u64 V.ct, .int .u64 V.at9, .int .u64 V.ls] 26 ∧ Fs (set6 W w.heap.size (.int .i64 V.lg) (.slice a V.f.length c) (.int .u64 V.fl) (.int .u64 V.ct) (.int .u64 V.at9) (.int .u64 V.ls)) a V.f.length c V.f ∧ Below w.heap.size w (set6 W w.heap.size (.int .i64 V.lg) (.slice a V.f.length c) (.int .u64 V.fl) (.int .u64 V.ct) (.int .u64 V.at9) (.int .u64 V.ls)) := by
  have hg := gset6 W w.heap.size (.int .i64 V.lg) (.slice a V.f.length c) (.int .u64 V.fl) (.int .u64 V.ct) (.int .u64 V.at9) (.int .u64 V.ls)
  have hz := zset h.z h.bel (Nat.le_refl _) (.int .i64 V.lg) (.slice a V.f.length c) (.int .u64 V.fl) (.int .u64 V.ct) (.int .u64 V.at9) (.int .u64 V.ls)
  have h6 := ownF_grown h.f hg (fun k hk => by have : w.heap.size = k := Option.some.inj hk; omega)
  exact ⟨hz.1, (ownF_fsN h6 h.wf rfl).2, hz.2⟩

set_option maxHeartbeats 4000000 in
theorem refreplay_any (zs : List Int) (w : World) (hm : zs.length ≤ 1000000) (hr : ByteL zs) :
    Calls Try.prog 24 #[.string (strOfNums zs)] w (RpA (rpE zs) w) := by
  have hsz := str_size zs
  have HBR := hide hr
  obtain ⟨len, hlen⟩ : ∃ len, zs.length = len := ⟨_, rfl⟩
  have HLN := hide hlen
  rw [hlen] at hsz hm
  have HER := hide (show ∀ W, rpE zs = none → Below w.heap.size w W → RpA (rpE zs) w (.returned (.tuple #[vwV none 0 0 zV, .int .i64 0, .int .i64 9])) W from fun W e hW => by rw [e]; exact ⟨rfl, hW⟩)
  have HGO := hide (show ∀ W a c V n, rpE zs = some (V, n) → Fs W a V.f.length c V.f → c ≤ 9223372036854775807 → Below w.heap.size w W → RpA (rpE zs) w (.returned (.tuple #[vwV a V.f.length c V, .int .i64 (n : Nat), .int .i64 0])) W from fun W a c V n e h1 h2 h3 => by rw [e]; exact ⟨⟨a, c, rfl, h1, h2⟩, h3⟩)
  have HRB := hide (fun j => @rpE_bad zs j)
  have HRE := hide (@rpE_err zs)
  have HRZ := hide (@rpE_zero zs)
  have HRS := hide (fun V => @rpE_some zs V)
  generalize hRR : RpA (rpE zs) w = RR at *
  clear hRR hlen hr
  unfold vwV at HER HGO
  simp only [zV] at HER
  have A0 := (Below.refl w.heap.size w).alloc (Nat.le_refl _) (Obj.cells #[.int .i64 0, .slice none 0 0, .int .u64 0, .int .u64 0, .int .u64 0, .int .u64 0] 26)
  have A1 := (Below.refl _ (w.alloc (Obj.cells #[.int .i64 0, .slice none 0 0, .int .u64 0, .int .u64 0, .int .u64 0, .int .u64 0] 26))).alloc (Nat.le_refl _) (Obj.cells #[.int .i64 0, .slice none 0 0, .int .u64 0, .int .u64 0, .int .u64 0, .int .u64 0] 26)
  have k0 := (ek_new w #[.int .i64 0, .slice none 0 0, .int .u64 0, .int .u64 0, .int .u64 0, .int .u64 0] 26).below A1 (ek_new w _ _).lt
  have k1 := ek_new (w.alloc (Obj.cells #[.int .i64 0, .slice none 0 0, .int .u64 0, .int .u64 0, .int .u64 0, .int .u64 0] 26)) #[.int .i64 0, .slice none 0 0, .int .u64 0, .int .u64 0, .int .u64 0, .int .u64 0] 26
  have hsz2 : (w.alloc (Obj.cells #[.int .i64 0, .slice none 0 0, .int .u64 0, .int .u64 0, .int .u64 0, .int .u64 0] 26)).heap.size = w.heap.size + 1 := by simp
  rw [hsz2] at k1
  have R0 := hide (show Rz w ((w.alloc (Obj.cells #[.int .i64 0, .slice none 0 0, .int .u64 0, .int .u64 0, .int .u64 0, .int .u64 0] 26)).alloc (Obj.cells #[.int .i64 0, .slice none 0 0, .int .u64 0, .int .u64 0, .int .u64 0, .int .u64 0] 26)) zV none 0 from ⟨k0, k1, ownF_nil _ _, by simp [zV], A0.trans (A1.mono (by simp)), by simp⟩)
  clear A0 A1 k0 k1 hsz2
  go_enter Try.func24, Try.ntmps24
  go_wp2_with fail
  generalize (w.alloc (Obj.cells #[.int .i64 0, .slice none 0 0, .int .u64 0, .int .u64 0, .int .u64 0, .int .u64 0] 26)).alloc (Obj.cells #[.int .i64 0, .slice none 0 0, .int .u64 0, .int .u64 0, .int .u64 0, .int .u64 0] 26) = wa at *
  go_loopw [6, 7] (fun t u wr => ∃ j P : Nat, P ≤ len ∧ t = .int .i64 P ∧ u = .int .i64 j ∧ j ≤ P ∧ Hid (At zs j P) ∧ Hid (∃ V a c, fE zV ((SP zs).1.take j) = some V ∧ Rz w wr V a c)) (fun t _ _ => len - (intOf t).toNat)
  case atStart => exact ⟨0, 0, by omega, rfl, rfl, by omega, hide (At.start zs), hide ⟨zV, none, 0, rfl, R0.out⟩⟩
  case round =>
    obtain ⟨j, P, hP, rfl, rfl, hjP, hat, hst⟩ := hrel
    obtain ⟨V, a, c, hfE, hry⟩ := hst.out
    have HFE := hide hfE
    have RY := hide hry
    have hon := fE_once hfE
    by_cases hlt : P < len
    · have U := hide (unframe_any zs P wr (by rw [HLN.out]; exact hm) HBR.out (by rw [HLN.out]; exact hP))
      have HUN := hide (show un (zs.drop P) P = if ce (zs.drop P) = 0 then .tuple #[.int .i64 (kd (zs.drop P)), .string (strOfNums (bo (zs.drop P))), .int .i64 (P + 12 + ln (zs.drop P)), .int .i64 0] else .tuple #[.int .i64 0, .string ⟨#[]⟩, .int .i64 0, .int .i64 (ce (zs.drop P))] from rfl)
      by_cases hc : ce (zs.drop P) = 0
      · rw [if_pos hc] at HUN
        rw [HUN.out] at U
        have hk := ce_ok (zs.drop P) hc
        rw [List.length_drop, HLN.out] at hk
        have hg := hat.out.step hc
        have HAT := hide hg.1
        have hjl := hg.2.1
        have HNX := hide (fE_next hjl hfE)
        rw [hg.2.2] at HNX
        have hbr : ByteL (bo (zs.drop P)) := ByteL.take (ByteL.drop (ByteL.take (ByteL.drop HBR.out P) _) _) _
        have hbl := bo_len _ hc
        have hrl := ln_range (zs.drop P) (range_of (ByteL.drop HBR.out P))
        clear hg hc hst hfE hry HUN
        generalize bo (zs.drop P) = Y at *
        generalize kd (zs.drop P) = K at *
        generalize ln (zs.drop P) = L at *
        obtain ⟨N, rfl⟩ := Int.eq_ofNat_of_zero_le hrl.1
        simp only [Int.toNat_natCast] at hk hbl HAT
        have HBY := hide hbr
        have hYl : Y.length ≤ 60000 := by omega
        have hPN : P + (N + 12) ≤ len := by omega
        clear hbr hrl hk
        have RD := hide (fun W => rread_any (strOfNums Y) Y W (by rw [str_size]; omega) (sz_of Y (range_of HBY.out)) HBY.out)
        generalize strOfNums Y = SY at *
        clear hYl hbl
        go_wp2_with fail
        refine U.out.mono ?_
        rintro e w1 ⟨rfl, hb1⟩
        have RY1 := hide (RY.out.keep hb1)
        clear U hb1
        by_cases hK : K = 6
        · subst hK
          go_wp2_with fail
          refine (RD.out w1).mono ?_
          rintro e w2 hr2
          obtain ⟨da, dn, dc, aa, an, ac, rfl, hz2, hf2, l1, l2, hb2⟩ := rda_form2 hr2
          obtain ⟨G, hG⟩ : ∃ G, (red Y).getD zE = G := ⟨_, rfl⟩
          obtain ⟨r, hr⟩ : ∃ r : Int, (if (red Y).isSome = true then 0 else 3) = r := ⟨_, rfl⟩
          rw [hG] at hz2 hf2 ⊢
          rw [hr]
          have HG := hide hG
          have HR := hide hr
          have A3 := (Below.refl _ w2).alloc (Nat.le_refl _) (Obj.cells #[.slice da dn dc, .slice aa an ac, .int .i64 G.lg, .int .u64 G.fl, .int .u64 G.ct, .int .u64 G.at9, .int .u64 G.ls] 31)
          have RY3 := hide ((RY1.out.keep hb2).keep A3)
          have k3 := ek_new w2 #[.slice da dn dc, .slice aa an ac, .int .i64 G.lg, .int .u64 G.fl, .int .u64 G.ct, .int .u64 G.at9, .int .u64 G.ls] 31
          have hx := RY3.out.x
          have hlx := hx.lt
          have hl3 := k3.lt
          have x0 : (w2.alloc (Obj.cells #[.slice da dn dc, .slice aa an ac, .int .i64 G.lg, .int .u64 G.fl, .int .u64 G.ct, .int .u64 G.at9, .int .u64 G.ls] 31)).cell? ⟨w.heap.size + 1, 0, none⟩ = some (.int .i64 V.lg) := (hx).cell rfl
          have x1 : (w2.alloc (Obj.cells #[.slice da dn dc, .slice aa an ac, .int .i64 G.lg, .int .u64 G.fl, .int .u64 G.ct, .int .u64 G.at9, .int .u64 G.ls] 31)).cell? ⟨w.heap.size + 1, 1, none⟩ = some (.slice a V.f.length c) := (hx).cell rfl
          have x2 : (w2.alloc (Obj.cells #[.slice da dn dc, .slice aa an ac, .int .i64 G.lg, .int .u64 G.fl, .int .u64 G.ct, .int .u64 G.at9, .int .u64 G.ls] 31)).cell? ⟨w.heap.size + 1, 2, none⟩ = some (.int .u64 V.fl) := (hx).cell rfl
          have x3 : (w2.alloc (Obj.cells #[.slice da dn dc, .slice aa an ac, .int .i64 G.lg, .int .u64 G.fl, .int .u64 G.ct, .int .u64 G.at9, .int .u64 G.ls] 31)).cell? ⟨w.heap.size + 1, 3, none⟩ = some (.int .u64 V.ct) := (hx).cell rfl
          have x4 : (w2.alloc (Obj.cells #[.slice da dn dc, .slice aa an ac, .int .i64 G.lg, .int .u64 G.fl, .int .u64 G.ct, .int .u64 G.at9, .int .u64 G.ls] 31)).cell? ⟨w.heap.size + 1, 4, none⟩ = some (.int .u64 V.at9) := (hx).cell rfl
          have x5 : (w2.alloc (Obj.cells #[.slice da dn dc, .slice aa an ac, .int .i64 G.lg, .int .u64 G.fl, .int .u64 G.ct, .int .u64 G.at9, .int .u64 G.ls] 31)).cell? ⟨w.heap.size + 1, 5, none⟩ = some (.int .u64 V.ls) := (hx).cell rfl
          have e0 : (w2.alloc (Obj.cells #[.slice da dn dc, .slice aa an ac, .int .i64 G.lg, .int .u64 G.fl, .int .u64 G.ct, .int .u64 G.at9, .int .u64 G.ls] 31)).cell? ⟨w2.heap.size, 0, none⟩ = some (.slice da dn dc) := (k3).cell rfl
          have e1 : (w2.alloc (Obj.cells #[.slice da dn dc, .slice aa an ac, .int .i64 G.lg, .int .u64 G.fl, .int .u64 G.ct, .int .u64 G.at9, .int .u64 G.ls] 31)).cell? ⟨w2.heap.size, 1, none⟩ = some (.slice aa an ac) := (k3).cell rfl
          have e2 : (w2.alloc (Obj.cells #[.slice da dn dc, .slice aa an ac, .int .i64 G.lg, .int .u64 G.fl, .int .u64 G.ct, .int .u64 G.at9, .int .u64 G.ls] 31)).cell? ⟨w2.heap.size, 2, none⟩ = some (.int .i64 G.lg) := (k3).cell rfl
          have e3 : (w2.alloc (Obj.cells #[.slice da dn dc, .slice aa an ac, .int .i64 G.lg, .int .u64 G.fl, .int .u64 G.ct, .int .u64 G.at9, .int .u64 G.ls] 31)).cell? ⟨w2.heap.size, 3, none⟩ = some (.int .u64 G.fl) := (k3).cell rfl
          have e4 : (w2.alloc (Obj.cells #[.slice da dn dc, .slice aa an ac, .int .i64 G.lg, .int .u64 G.fl, .int .u64 G.ct, .int .u64 G.at9, .int .u64 G.ls] 31)).cell? ⟨w2.heap.size, 4, none⟩ = some (.int .u64 G.ct) := (k3).cell rfl
          have e5 : (w2.alloc (Obj.cells #[.slice da dn dc, .slice aa an ac, .int .i64 G.lg, .int .u64 G.fl, .int .u64 G.ct, .int .u64 G.at9, .int .u64 G.ls] 31)).cell? ⟨w2.heap.size, 5, none⟩ = some (.int .u64 G.at9) := (k3).cell rfl
          have e6 : (w2.alloc (Obj.cells #[.slice da dn dc, .slice aa an ac, .int .i64 G.lg, .int .u64 G.fl, .int .u64 G.ct, .int .u64 G.at9, .int .u64 G.ls] 31)).cell? ⟨w2.heap.size, 6, none⟩ = some (.int .u64 G.ls) := (k3).cell rfl
          have CA := hide (refapply_any a da aa V.f.length c dn dc an ac V G (w2.alloc (Obj.cells #[.slice da dn dc, .slice aa an ac, .int .i64 G.lg, .int .u64 G.fl, .int .u64 G.ct, .int .u64 G.at9, .int .u64 G.ls] 31)) RY3.out.fs.2 (hz2.below A3 (Nat.le_refl _)) (hf2.below A3 (Nat.le_refl _)) (by omega) (by omega) (by omega))
          unfold vwV edV at CA
          unfold edV
          clear hr2 hz2 hf2 hb2 hG hr A3 k3 hx RD
          go_wp2_with fail
          refine CA.out.mono ?_
          rintro e w4 hr4
          obtain ⟨q, hq⟩ : ∃ q, appl V G = q := ⟨_, rfl⟩
          rw [hq] at hr4
          have HQ := hide hq
          have hqo : ∀ U, q = some U → vok U = true := fun U e => appl_ok (hq.trans e)
          have hnx := show red Y = none ∨ (red Y = some G ∧ r = 0) from by
            cases hy : red Y with
            | none => exact .inl rfl
            | some E => exact .inr ⟨by rw [← HG.out, hy]; rfl, by rw [← HR.out, hy]; rfl⟩
          clear CA hq x0 x1 x2 x3 x4 x5 e0 e1 e2 e3 e4 e5 e6
          rcases hnx with hnn | ⟨hns, rfl⟩
          · have hr3 : r = 3 := by rw [← HR.out, hnn]; rfl
            subst hr3
            have HN := hide (HER.out · (HRB.out (j + 1) (by rw [HNX.out]; simp only [if_true]; unfold cgd; rw [hnn])))
            obtain ⟨a4, c4, rfl, hc4, ho4, hw4, hb4⟩ := apr_any hr4
            have A5 := (Below.refl _ w4).alloc (Nat.le_refl _) (Obj.cells #[.int .i64 (apv q).lg, .slice a4 (apv q).f.length c4, .int .u64 (apv q).fl, .int .u64 (apv q).ct, .int .u64 (apv q).at9, .int .u64 (apv q).ls] 26)
            have RY5 := hide ((RY3.out.keep hb4).keep A5)
            have hz := RY5.out.z
            have hlz := hz.lt
            have cc0 : (w4.alloc (Obj.cells #[.int .i64 (apv q).lg, .slice a4 (apv q).f.length c4, .int .u64 (apv q).fl, .int .u64 (apv q).ct, .int .u64 (apv q).at9, .int .u64 (apv q).ls] 26)).cell? ⟨w.heap.size, 0, none⟩ = some (.int .i64 0) := (hz).cell rfl
            have cc1 : (w4.alloc (Obj.cells #[.int .i64 (apv q).lg, .slice a4 (apv q).f.length c4, .int .u64 (apv q).fl, .int .u64 (apv q).ct, .int .u64 (apv q).at9, .int .u64 (apv q).ls] 26)).cell? ⟨w.heap.size, 1, none⟩ = some (.slice none 0 0) := (hz).cell rfl
            have cc2 : (w4.alloc (Obj.cells #[.int .i64 (apv q).lg, .slice a4 (apv q).f.length c4, .int .u64 (apv q).fl, .int .u64 (apv q).ct, .int .u64 (apv q).at9, .int .u64 (apv q).ls] 26)).cell? ⟨w.heap.size, 2, none⟩ = some (.int .u64 0) := (hz).cell rfl
            have cc3 : (w4.alloc (Obj.cells #[.int .i64 (apv q).lg, .slice a4 (apv q).f.length c4, .int .u64 (apv q).fl, .int .u64 (apv q).ct, .int .u64 (apv q).at9, .int .u64 (apv q).ls] 26)).cell? ⟨w.heap.size, 3, none⟩ = some (.int .u64 0) := (hz).cell rfl
            have cc4 : (w4.alloc (Obj.cells #[.int .i64 (apv q).lg, .slice a4 (apv q).f.length c4, .int .u64 (apv q).fl, .int .u64 (apv q).ct, .int .u64 (apv q).at9, .int .u64 (apv q).ls] 26)).cell? ⟨w.heap.size, 4, none⟩ = some (.int .u64 0) := (hz).cell rfl
            have cc5 : (w4.alloc (Obj.cells #[.int .i64 (apv q).lg, .slice a4 (apv q).f.length c4, .int .u64 (apv q).fl, .int .u64 (apv q).ct, .int .u64 (apv q).at9, .int .u64 (apv q).ls] 26)).cell? ⟨w.heap.size, 5, none⟩ = some (.int .u64 0) := (hz).cell rfl
            have cf0 : (w4.alloc (Obj.cells #[.int .i64 (apv q).lg, .slice a4 (apv q).f.length c4, .int .u64 (apv q).fl, .int .u64 (apv q).ct, .int .u64 (apv q).at9, .int .u64 (apv q).ls] 26)).frozen? ⟨w.heap.size, 0, none⟩ = false := (hz).free 0
            have cf1 : (w4.alloc (Obj.cells #[.int .i64 (apv q).lg, .slice a4 (apv q).f.length c4, .int .u64 (apv q).fl, .int .u64 (apv q).ct, .int .u64 (apv q).at9, .int .u64 (apv q).ls] 26)).frozen? ⟨w.heap.size, 1, none⟩ = false := (hz).free 1
            have cf2 : (w4.alloc (Obj.cells #[.int .i64 (apv q).lg, .slice a4 (apv q).f.length c4, .int .u64 (apv q).fl, .int .u64 (apv q).ct, .int .u64 (apv q).at9, .int .u64 (apv q).ls] 26)).frozen? ⟨w.heap.size, 2, none⟩ = false := (hz).free 2
            have cf3 : (w4.alloc (Obj.cells #[.int .i64 (apv q).lg, .slice a4 (apv q).f.length c4, .int .u64 (apv q).fl, .int .u64 (apv q).ct, .int .u64 (apv q).at9, .int .u64 (apv q).ls] 26)).frozen? ⟨w.heap.size, 3, none⟩ = false := (hz).free 3
            have cf4 : (w4.alloc (Obj.cells #[.int .i64 (apv q).lg, .slice a4 (apv q).f.length c4, .int .u64 (apv q).fl, .int .u64 (apv q).ct, .int .u64 (apv q).at9, .int .u64 (apv q).ls] 26)).frozen? ⟨w.heap.size, 4, none⟩ = false := (hz).free 4
            have cf5 : (w4.alloc (Obj.cells #[.int .i64 (apv q).lg, .slice a4 (apv q).f.length c4, .int .u64 (apv q).fl, .int .u64 (apv q).ct, .int .u64 (apv q).at9, .int .u64 (apv q).ls] 26)).frozen? ⟨w.heap.size, 5, none⟩ = false := (hz).free 5
            unfold vwV
            clear hz hr4 ho4 hw4 hb4 A5 HGO HRB HRE HRZ HRS HNX HQ HG HR hqo hnn
            go_wp2
            have HZS := zset RY5.out.z RY5.out.bel (Nat.le_refl _) (.int .i64 0) (.slice none 0 0) (.int .u64 0) (.int .u64 0) (.int .u64 0) (.int .u64 0)
            refine bodyPost_ret (rreplay_results (e := 9) HZS.1 _ rfl rfl rfl) rfl ?_
            exact HN.out _ HZS.2
          · have HNR := hide (show fE zV ((SP zs).1.take (j + 1)) = q from by rw [HNX.out]; simp only [if_true]; unfold cgd; rw [hns]; exact HQ.out)
            clear HNX HQ HG HR hns
            cases q with
            | none =>
              obtain ⟨rfl, hb4⟩ := hr4
              have A5 := (Below.refl _ w4).alloc (Nat.le_refl _) (Obj.cells #[.int .i64 0, .slice none 0 0, .int .u64 0, .int .u64 0, .int .u64 0, .int .u64 0] 26)
              have RY5 := hide ((RY3.out.keep hb4).keep A5)
              have HN := hide (HER.out · (HRB.out (j + 1) HNR.out))
              have hz := RY5.out.z
              have hlz := hz.lt
              have cc0 : (w4.alloc (Obj.cells #[.int .i64 0, .slice none 0 0, .int .u64 0, .int .u64 0, .int .u64 0, .int .u64 0] 26)).cell? ⟨w.heap.size, 0, none⟩ = some (.int .i64 0) := (hz).cell rfl
              have cc1 : (w4.alloc (Obj.cells #[.int .i64 0, .slice none 0 0, .int .u64 0, .int .u64 0, .int .u64 0, .int .u64 0] 26)).cell? ⟨w.heap.size, 1, none⟩ = some (.slice none 0 0) := (hz).cell rfl
              have cc2 : (w4.alloc (Obj.cells #[.int .i64 0, .slice none 0 0, .int .u64 0, .int .u64 0, .int .u64 0, .int .u64 0] 26)).cell? ⟨w.heap.size, 2, none⟩ = some (.int .u64 0) := (hz).cell rfl
              have cc3 : (w4.alloc (Obj.cells #[.int .i64 0, .slice none 0 0, .int .u64 0, .int .u64 0, .int .u64 0, .int .u64 0] 26)).cell? ⟨w.heap.size, 3, none⟩ = some (.int .u64 0) := (hz).cell rfl
              have cc4 : (w4.alloc (Obj.cells #[.int .i64 0, .slice none 0 0, .int .u64 0, .int .u64 0, .int .u64 0, .int .u64 0] 26)).cell? ⟨w.heap.size, 4, none⟩ = some (.int .u64 0) := (hz).cell rfl
              have cc5 : (w4.alloc (Obj.cells #[.int .i64 0, .slice none 0 0, .int .u64 0, .int .u64 0, .int .u64 0, .int .u64 0] 26)).cell? ⟨w.heap.size, 5, none⟩ = some (.int .u64 0) := (hz).cell rfl
              have cf0 : (w4.alloc (Obj.cells #[.int .i64 0, .slice none 0 0, .int .u64 0, .int .u64 0, .int .u64 0, .int .u64 0] 26)).frozen? ⟨w.heap.size, 0, none⟩ = false := (hz).free 0
              have cf1 : (w4.alloc (Obj.cells #[.int .i64 0, .slice none 0 0, .int .u64 0, .int .u64 0, .int .u64 0, .int .u64 0] 26)).frozen? ⟨w.heap.size, 1, none⟩ = false := (hz).free 1
              have cf2 : (w4.alloc (Obj.cells #[.int .i64 0, .slice none 0 0, .int .u64 0, .int .u64 0, .int .u64 0, .int .u64 0] 26)).frozen? ⟨w.heap.size, 2, none⟩ = false := (hz).free 2
              have cf3 : (w4.alloc (Obj.cells #[.int .i64 0, .slice none 0 0, .int .u64 0, .int .u64 0, .int .u64 0, .int .u64 0] 26)).frozen? ⟨w.heap.size, 3, none⟩ = false := (hz).free 3
              have cf4 : (w4.alloc (Obj.cells #[.int .i64 0, .slice none 0 0, .int .u64 0, .int .u64 0, .int .u64 0, .int .u64 0] 26)).frozen? ⟨w.heap.size, 4, none⟩ = false := (hz).free 4
              have cf5 : (w4.alloc (Obj.cells #[.int .i64 0, .slice none 0 0, .int .u64 0, .int .u64 0, .int .u64 0, .int .u64 0] 26)).frozen? ⟨w.heap.size, 5, none⟩ = false := (hz).free 5
              unfold vwV zV
              clear hz hb4 A5 HGO HRB HRE HRZ HRS HNR hqo
              go_wp2
              have HZS := zset RY5.out.z RY5.out.bel (Nat.le_refl _) (.int .i64 0) (.slice none 0 0) (.int .u64 0) (.int .u64 0) (.int .u64 0) (.int .u64 0)
              refine bodyPost_ret (rreplay_results (e := 9) HZS.1 _ rfl rfl rfl) rfl ?_
              exact HN.out _ HZS.2
            | some U2 =>
              obtain ⟨a4, c4, rfl, hc4, ho4, hf4, hb4⟩ := apr_some hr4
              have A5 := (Below.refl _ w4).alloc (Nat.le_refl _) (Obj.cells #[.int .i64 U2.lg, .slice a4 U2.f.length c4, .int .u64 U2.fl, .int .u64 U2.ct, .int .u64 U2.at9, .int .u64 U2.ls] 26)
              have RY5 := hide ((RY3.out.keep hb4).keep A5)
              have k5 := ek_new w4 #[.int .i64 U2.lg, .slice a4 U2.f.length c4, .int .u64 U2.fl, .int .u64 U2.ct, .int .u64 U2.at9, .int .u64 U2.ls] 26
              have HO5 := hide (ownF_base (ownF_keep ho4 A5) RY3.out.sz)
              have HW5 := hide hf4.2.2.1
              have hx := RY5.out.x
              have hlx := hx.lt
              have hl5 := k5.lt
              have cx0 : (w4.alloc (Obj.cells #[.int .i64 U2.lg, .slice a4 U2.f.length c4, .int .u64 U2.fl, .int .u64 U2.ct, .int .u64 U2.at9, .int .u64 U2.ls] 26)).cell? ⟨w.heap.size + 1, 0, none⟩ = some (.int .i64 V.lg) := (hx).cell rfl
              have cx1 : (w4.alloc (Obj.cells #[.int .i64 U2.lg, .slice a4 U2.f.length c4, .int .u64 U2.fl, .int .u64 U2.ct, .int .u64 U2.at9, .int .u64 U2.ls] 26)).cell? ⟨w.heap.size + 1, 1, none⟩ = some (.slice a V.f.length c) := (hx).cell rfl
              have cx2 : (w4.alloc (Obj.cells #[.int .i64 U2.lg, .slice a4 U2.f.length c4, .int .u64 U2.fl, .int .u64 U2.ct, .int .u64 U2.at9, .int .u64 U2.ls] 26)).cell? ⟨w.heap.size + 1, 2, none⟩ = some (.int .u64 V.fl) := (hx).cell rfl
              have cx3 : (w4.alloc (Obj.cells #[.int .i64 U2.lg, .slice a4 U2.f.length c4, .int .u64 U2.fl, .int .u64 U2.ct, .int .u64 U2.at9, .int .u64 U2.ls] 26)).cell? ⟨w.heap.size + 1, 3, none⟩ = some (.int .u64 V.ct) := (hx).cell rfl
              have cx4 : (w4.alloc (Obj.cells #[.int .i64 U2.lg, .slice a4 U2.f.length c4, .int .u64 U2.fl, .int .u64 U2.ct, .int .u64 U2.at9, .int .u64 U2.ls] 26)).cell? ⟨w.heap.size + 1, 4, none⟩ = some (.int .u64 V.at9) := (hx).cell rfl
              have cx5 : (w4.alloc (Obj.cells #[.int .i64 U2.lg, .slice a4 U2.f.length c4, .int .u64 U2.fl, .int .u64 U2.ct, .int .u64 U2.at9, .int .u64 U2.ls] 26)).cell? ⟨w.heap.size + 1, 5, none⟩ = some (.int .u64 V.ls) := (hx).cell rfl
              have cf0 : (w4.alloc (Obj.cells #[.int .i64 U2.lg, .slice a4 U2.f.length c4, .int .u64 U2.fl, .int .u64 U2.ct, .int .u64 U2.at9, .int .u64 U2.ls] 26)).frozen? ⟨w.heap.size + 1, 0, none⟩ = false := (hx).free 0
              have cf1 : (w4.alloc (Obj.cells #[.int .i64 U2.lg, .slice a4 U2.f.length c4, .int .u64 U2.fl, .int .u64 U2.ct, .int .u64 U2.at9, .int .u64 U2.ls] 26)).frozen? ⟨w.heap.size + 1, 1, none⟩ = false := (hx).free 1
              have cf2 : (w4.alloc (Obj.cells #[.int .i64 U2.lg, .slice a4 U2.f.length c4, .int .u64 U2.fl, .int .u64 U2.ct, .int .u64 U2.at9, .int .u64 U2.ls] 26)).frozen? ⟨w.heap.size + 1, 2, none⟩ = false := (hx).free 2
              have cf3 : (w4.alloc (Obj.cells #[.int .i64 U2.lg, .slice a4 U2.f.length c4, .int .u64 U2.fl, .int .u64 U2.ct, .int .u64 U2.at9, .int .u64 U2.ls] 26)).frozen? ⟨w.heap.size + 1, 3, none⟩ = false := (hx).free 3
              have cf4 : (w4.alloc (Obj.cells #[.int .i64 U2.lg, .slice a4 U2.f.length c4, .int .u64 U2.fl, .int .u64 U2.ct, .int .u64 U2.at9, .int .u64 U2.ls] 26)).frozen? ⟨w.heap.size + 1, 4, none⟩ = false := (hx).free 4
              have cf5 : (w4.alloc (Obj.cells #[.int .i64 U2.lg, .slice a4 U2.f.length c4, .int .u64 U2.fl, .int .u64 U2.ct, .int .u64 U2.at9, .int .u64 U2.ls] 26)).frozen? ⟨w.heap.size + 1, 5, none⟩ = false := (hx).free 5
              have ck0 : (w4.alloc (Obj.cells #[.int .i64 U2.lg, .slice a4 U2.f.length c4, .int .u64 U2.fl, .int .u64 U2.ct, .int .u64 U2.at9, .int .u64 U2.ls] 26)).cell? ⟨w4.heap.size, 0, none⟩ = some (.int .i64 U2.lg) := (k5).cell rfl
              have ck1 : (w4.alloc (Obj.cells #[.int .i64 U2.lg, .slice a4 U2.f.length c4, .int .u64 U2.fl, .int .u64 U2.ct, .int .u64 U2.at9, .int .u64 U2.ls] 26)).cell? ⟨w4.heap.size, 1, none⟩ = some (.slice a4 U2.f.length c4) := (k5).cell rfl
              have ck2 : (w4.alloc (Obj.cells #[.int .i64 U2.lg, .slice a4 U2.f.length c4, .int .u64 U2.fl, .int .u64 U2.ct, .int .u64 U2.at9, .int .u64 U2.ls] 26)).cell? ⟨w4.heap.size, 2, none⟩ = some (.int .u64 U2.fl) := (k5).cell rfl
              have ck3 : (w4.alloc (Obj.cells #[.int .i64 U2.lg, .slice a4 U2.f.length c4, .int .u64 U2.fl, .int .u64 U2.ct, .int .u64 U2.at9, .int .u64 U2.ls] 26)).cell? ⟨w4.heap.size, 3, none⟩ = some (.int .u64 U2.ct) := (k5).cell rfl
              have ck4 : (w4.alloc (Obj.cells #[.int .i64 U2.lg, .slice a4 U2.f.length c4, .int .u64 U2.fl, .int .u64 U2.ct, .int .u64 U2.at9, .int .u64 U2.ls] 26)).cell? ⟨w4.heap.size, 4, none⟩ = some (.int .u64 U2.at9) := (k5).cell rfl
              have ck5 : (w4.alloc (Obj.cells #[.int .i64 U2.lg, .slice a4 U2.f.length c4, .int .u64 U2.fl, .int .u64 U2.ct, .int .u64 U2.at9, .int .u64 U2.ls] 26)).cell? ⟨w4.heap.size, 5, none⟩ = some (.int .u64 U2.ls) := (k5).cell rfl
              have RY6 := hide (RY5.out.put HO5.out HW5.out)
              unfold set6 at RY6
              have hwp : IntKind.i64.wrap ((j : Int) + 1) = (j : Int) + 1 := by simp [IntKind.wrap, IntKind.bits, IntKind.signed]; omega
              unfold vwV
              clear hx k5 hr4 ho4 hf4 hb4 A5 HO5 hqo
              go_wp2
              go_roundw
              case rel => exact ⟨j + 1, P + (N + 12), hPN, by rw [show (P : Int) + 12 + (N : Int) = ((P + (N + 12) : Nat) : Int) from by omega], by go_num, by omega, hide HAT.out, hide ⟨U2, a4, c4, HNR.out, RY6.out⟩⟩
              case measure => simp [intOf]; omega
        · have q6 : (K != 6) = true := by simpa using hK
          have HN := hide (HER.out · (HRB.out (j + 1) (by rw [HNX.out, if_neg hK])))
          have hz := RY1.out.z
          have hlz := hz.lt
          have cc0 : w1.cell? ⟨w.heap.size, 0, none⟩ = some (.int .i64 0) := (hz).cell rfl
          have cc1 : w1.cell? ⟨w.heap.size, 1, none⟩ = some (.slice none 0 0) := (hz).cell rfl
          have cc2 : w1.cell? ⟨w.heap.size, 2, none⟩ = some (.int .u64 0) := (hz).cell rfl
          have cc3 : w1.cell? ⟨w.heap.size, 3, none⟩ = some (.int .u64 0) := (hz).cell rfl
          have cc4 : w1.cell? ⟨w.heap.size, 4, none⟩ = some (.int .u64 0) := (hz).cell rfl
          have cc5 : w1.cell? ⟨w.heap.size, 5, none⟩ = some (.int .u64 0) := (hz).cell rfl
          have cf0 : w1.frozen? ⟨w.heap.size, 0, none⟩ = false := (hz).free 0
          have cf1 : w1.frozen? ⟨w.heap.size, 1, none⟩ = false := (hz).free 1
          have cf2 : w1.frozen? ⟨w.heap.size, 2, none⟩ = false := (hz).free 2
          have cf3 : w1.frozen? ⟨w.heap.size, 3, none⟩ = false := (hz).free 3
          have cf4 : w1.frozen? ⟨w.heap.size, 4, none⟩ = false := (hz).free 4
          have cf5 : w1.frozen? ⟨w.heap.size, 5, none⟩ = false := (hz).free 5
          clear hz HGO HRB HRE HRZ HRS HNX hK RD
          go_wp2
          have HZS := zset RY1.out.z RY1.out.bel (Nat.le_refl _) (.int .i64 0) (.slice none 0 0) (.int .u64 0) (.int .u64 0) (.int .u64 0) (.int .u64 0)
          refine bodyPost_ret (rreplay_results (e := 9) HZS.1 _ rfl rfl rfl) rfl ?_
          exact HN.out _ HZS.2
      · rw [if_neg hc] at HUN
        rw [HUN.out] at U
        have hs := hat.out.halt hc
        clear HUN hst hry
        obtain ⟨E, hE⟩ : ∃ E, ce (zs.drop P) = E := ⟨_, rfl⟩
        rw [hE] at U hc hs
        by_cases h4 : E = 4
        · subst h4
          have hF : (SP zs).1.take j = (SP zs).1 := List.take_of_length_le (by omega)
          rw [hF] at HFE
          have HSE := hide (show (SP zs).2.2 = 0 ∨ (SP zs).2.2 = 4 from by rcases hs.2.2 with h | h; exact .inl h.1; exact .inr h)
          have HS := hide hs
          clear hs hF hE hc hfE
          go_wp2_with fail
          refine U.out.mono ?_
          rintro e w1 ⟨rfl, hb1⟩
          have RY1 := hide (RY.out.keep hb1)
          clear U hb1
          by_cases hj0 : j = 0
          · subst hj0
            have HN := hide (HER.out · (HRZ.out HS.out.1))
            have hz := RY1.out.z
            have hlz := hz.lt
            have cc0 : w1.cell? ⟨w.heap.size, 0, none⟩ = some (.int .i64 0) := (hz).cell rfl
            have cc1 : w1.cell? ⟨w.heap.size, 1, none⟩ = some (.slice none 0 0) := (hz).cell rfl
            have cc2 : w1.cell? ⟨w.heap.size, 2, none⟩ = some (.int .u64 0) := (hz).cell rfl
            have cc3 : w1.cell? ⟨w.heap.size, 3, none⟩ = some (.int .u64 0) := (hz).cell rfl
            have cc4 : w1.cell? ⟨w.heap.size, 4, none⟩ = some (.int .u64 0) := (hz).cell rfl
            have cc5 : w1.cell? ⟨w.heap.size, 5, none⟩ = some (.int .u64 0) := (hz).cell rfl
            have cf0 : w1.frozen? ⟨w.heap.size, 0, none⟩ = false := (hz).free 0
            have cf1 : w1.frozen? ⟨w.heap.size, 1, none⟩ = false := (hz).free 1
            have cf2 : w1.frozen? ⟨w.heap.size, 2, none⟩ = false := (hz).free 2
            have cf3 : w1.frozen? ⟨w.heap.size, 3, none⟩ = false := (hz).free 3
            have cf4 : w1.frozen? ⟨w.heap.size, 4, none⟩ = false := (hz).free 4
            have cf5 : w1.frozen? ⟨w.heap.size, 5, none⟩ = false := (hz).free 5
            clear hz HGO HRB HRE HRZ HRS HFE HSE HS
            go_wp2
            have HZS := zset RY1.out.z RY1.out.bel (Nat.le_refl _) (.int .i64 0) (.slice none 0 0) (.int .u64 0) (.int .u64 0) (.int .u64 0) (.int .u64 0)
            refine bodyPost_ret (rreplay_results (e := 9) HZS.1 _ rfl rfl rfl) rfl ?_
            exact HN.out _ HZS.2
          · have qj : ((j : Int) == 0) = false := by simp [hj0]
            have hres := HRS.out V HSE.out (by have := HS.out.1; omega) HFE.out
            rw [HS.out.2.1] at hres
            have HN := hide hres
            have hz := RY1.out.z
            have hlz := hz.lt
            have hx := RY1.out.x
            have hlx := hx.lt
            have cc0 : w1.cell? ⟨w.heap.size, 0, none⟩ = some (.int .i64 0) := (hz).cell rfl
            have cc1 : w1.cell? ⟨w.heap.size, 1, none⟩ = some (.slice none 0 0) := (hz).cell rfl
            have cc2 : w1.cell? ⟨w.heap.size, 2, none⟩ = some (.int .u64 0) := (hz).cell rfl
            have cc3 : w1.cell? ⟨w.heap.size, 3, none⟩ = some (.int .u64 0) := (hz).cell rfl
            have cc4 : w1.cell? ⟨w.heap.size, 4, none⟩ = some (.int .u64 0) := (hz).cell rfl
            have cc5 : w1.cell? ⟨w.heap.size, 5, none⟩ = some (.int .u64 0) := (hz).cell rfl
            have cf0 : w1.frozen? ⟨w.heap.size, 0, none⟩ = false := (hz).free 0
            have cf1 : w1.frozen? ⟨w.heap.size, 1, none⟩ = false := (hz).free 1
            have cf2 : w1.frozen? ⟨w.heap.size, 2, none⟩ = false := (hz).free 2
            have cf3 : w1.frozen? ⟨w.heap.size, 3, none⟩ = false := (hz).free 3
            have cf4 : w1.frozen? ⟨w.heap.size, 4, none⟩ = false := (hz).free 4
            have cf5 : w1.frozen? ⟨w.heap.size, 5, none⟩ = false := (hz).free 5
            have cx0 : w1.cell? ⟨w.heap.size + 1, 0, none⟩ = some (.int .i64 V.lg) := (hx).cell rfl
            have cx1 : w1.cell? ⟨w.heap.size + 1, 1, none⟩ = some (.slice a V.f.length c) := (hx).cell rfl
            have cx2 : w1.cell? ⟨w.heap.size + 1, 2, none⟩ = some (.int .u64 V.fl) := (hx).cell rfl
            have cx3 : w1.cell? ⟨w.heap.size + 1, 3, none⟩ = some (.int .u64 V.ct) := (hx).cell rfl
            have cx4 : w1.cell? ⟨w.heap.size + 1, 4, none⟩ = some (.int .u64 V.at9) := (hx).cell rfl
            have cx5 : w1.cell? ⟨w.heap.size + 1, 5, none⟩ = some (.int .u64 V.ls) := (hx).cell rfl
            clear hz hx HER HRB HRE HRZ HRS HFE HSE HS hres hj0
            go_wp2
            have RT := RY1.out.ret
            refine bodyPost_ret (rreplay_results (e := 0) RT.1 _ rfl rfl rfl) rfl ?_
            exact HGO.out _ a c V P HN.out RT.2.1 RY1.out.fs.1 RT.2.2
        · have q0 : (E != 0) = true := by simpa using hc
          have q4 : (E == 4) = false := by simpa using h4
          have HN := hide (HER.out · (HRE.out (by rcases hs.2.2 with h | h; exact absurd h.2 h4; rw [h]; exact hc) (by rcases hs.2.2 with h | h; exact absurd h.2 h4; rw [h]; exact h4)))
          clear HGO HRB HRE HRZ HRS HFE hs hE hc h4 hfE
          go_wp2_with fail
          refine U.out.mono ?_
          rintro e w1 ⟨rfl, hb1⟩
          have RY1 := hide (RY.out.keep hb1)
          have hz := RY1.out.z
          have hlz := hz.lt
          have cc0 : w1.cell? ⟨w.heap.size, 0, none⟩ = some (.int .i64 0) := (hz).cell rfl
          have cc1 : w1.cell? ⟨w.heap.size, 1, none⟩ = some (.slice none 0 0) := (hz).cell rfl
          have cc2 : w1.cell? ⟨w.heap.size, 2, none⟩ = some (.int .u64 0) := (hz).cell rfl
          have cc3 : w1.cell? ⟨w.heap.size, 3, none⟩ = some (.int .u64 0) := (hz).cell rfl
          have cc4 : w1.cell? ⟨w.heap.size, 4, none⟩ = some (.int .u64 0) := (hz).cell rfl
          have cc5 : w1.cell? ⟨w.heap.size, 5, none⟩ = some (.int .u64 0) := (hz).cell rfl
          have cf0 : w1.frozen? ⟨w.heap.size, 0, none⟩ = false := (hz).free 0
          have cf1 : w1.frozen? ⟨w.heap.size, 1, none⟩ = false := (hz).free 1
          have cf2 : w1.frozen? ⟨w.heap.size, 2, none⟩ = false := (hz).free 2
          have cf3 : w1.frozen? ⟨w.heap.size, 3, none⟩ = false := (hz).free 3
          have cf4 : w1.frozen? ⟨w.heap.size, 4, none⟩ = false := (hz).free 4
          have cf5 : w1.frozen? ⟨w.heap.size, 5, none⟩ = false := (hz).free 5
          clear hz U hb1
          go_wp2
          have HZS := zset RY1.out.z RY1.out.bel (Nat.le_refl _) (.int .i64 0) (.slice none 0 0) (.int .u64 0) (.int .u64 0) (.int .u64 0) (.int .u64 0)
          refine bodyPost_ret (rreplay_results (e := 9) HZS.1 _ rfl rfl rfl) rfl ?_
          exact HN.out _ HZS.2
    · have hPl : P = zs.length := by rw [HLN.out]; omega
      have hs := hat.out.end hPl
      have hF : (SP zs).1.take j = (SP zs).1 := List.take_of_length_le (by omega)
      rw [hF] at HFE
      have HSE := hide (show (SP zs).2.2 = 0 ∨ (SP zs).2.2 = 4 from .inl hs.2.2)
      have HS := hide (show (SP zs).1.length = j ∧ (SP zs).2.1 = P ∧ True from ⟨hs.1, hs.2.1, trivial⟩)
      obtain ⟨w1, hw1⟩ : ∃ x, x = wr := ⟨_, rfl⟩
      subst hw1
      have RY1 := RY
      clear hs hF hPl hfE hry hst
      by_cases hj0 : j = 0
      · subst hj0
        have HN := hide (HER.out · (HRZ.out HS.out.1))
        have hz := RY1.out.z
        have hlz := hz.lt
        have cc0 : w1.cell? ⟨w.heap.size, 0, none⟩ = some (.int .i64 0) := (hz).cell rfl
        have cc1 : w1.cell? ⟨w.heap.size, 1, none⟩ = some (.slice none 0 0) := (hz).cell rfl
        have cc2 : w1.cell? ⟨w.heap.size, 2, none⟩ = some (.int .u64 0) := (hz).cell rfl
        have cc3 : w1.cell? ⟨w.heap.size, 3, none⟩ = some (.int .u64 0) := (hz).cell rfl
        have cc4 : w1.cell? ⟨w.heap.size, 4, none⟩ = some (.int .u64 0) := (hz).cell rfl
        have cc5 : w1.cell? ⟨w.heap.size, 5, none⟩ = some (.int .u64 0) := (hz).cell rfl
        have cf0 : w1.frozen? ⟨w.heap.size, 0, none⟩ = false := (hz).free 0
        have cf1 : w1.frozen? ⟨w.heap.size, 1, none⟩ = false := (hz).free 1
        have cf2 : w1.frozen? ⟨w.heap.size, 2, none⟩ = false := (hz).free 2
        have cf3 : w1.frozen? ⟨w.heap.size, 3, none⟩ = false := (hz).free 3
        have cf4 : w1.frozen? ⟨w.heap.size, 4, none⟩ = false := (hz).free 4
        have cf5 : w1.frozen? ⟨w.heap.size, 5, none⟩ = false := (hz).free 5
        clear hz HGO HRB HRE HRZ HRS HFE HSE HS
        go_wp2
        have HZS := zset RY1.out.z RY1.out.bel (Nat.le_refl _) (.int .i64 0) (.slice none 0 0) (.int .u64 0) (.int .u64 0) (.int .u64 0) (.int .u64 0)
        refine bodyPost_ret (rreplay_results (e := 9) HZS.1 _ rfl rfl rfl) rfl ?_
        exact HN.out _ HZS.2
      · have qj : ((j : Int) == 0) = false := by simp [hj0]
        have hres := HRS.out V HSE.out (by have := HS.out.1; omega) HFE.out
        rw [HS.out.2.1] at hres
        have HN := hide hres
        have hz := RY1.out.z
        have hlz := hz.lt
        have hx := RY1.out.x
        have hlx := hx.lt
        have cc0 : w1.cell? ⟨w.heap.size, 0, none⟩ = some (.int .i64 0) := (hz).cell rfl
        have cc1 : w1.cell? ⟨w.heap.size, 1, none⟩ = some (.slice none 0 0) := (hz).cell rfl
        have cc2 : w1.cell? ⟨w.heap.size, 2, none⟩ = some (.int .u64 0) := (hz).cell rfl
        have cc3 : w1.cell? ⟨w.heap.size, 3, none⟩ = some (.int .u64 0) := (hz).cell rfl
        have cc4 : w1.cell? ⟨w.heap.size, 4, none⟩ = some (.int .u64 0) := (hz).cell rfl
        have cc5 : w1.cell? ⟨w.heap.size, 5, none⟩ = some (.int .u64 0) := (hz).cell rfl
        have cf0 : w1.frozen? ⟨w.heap.size, 0, none⟩ = false := (hz).free 0
        have cf1 : w1.frozen? ⟨w.heap.size, 1, none⟩ = false := (hz).free 1
        have cf2 : w1.frozen? ⟨w.heap.size, 2, none⟩ = false := (hz).free 2
        have cf3 : w1.frozen? ⟨w.heap.size, 3, none⟩ = false := (hz).free 3
        have cf4 : w1.frozen? ⟨w.heap.size, 4, none⟩ = false := (hz).free 4
        have cf5 : w1.frozen? ⟨w.heap.size, 5, none⟩ = false := (hz).free 5
        have cx0 : w1.cell? ⟨w.heap.size + 1, 0, none⟩ = some (.int .i64 V.lg) := (hx).cell rfl
        have cx1 : w1.cell? ⟨w.heap.size + 1, 1, none⟩ = some (.slice a V.f.length c) := (hx).cell rfl
        have cx2 : w1.cell? ⟨w.heap.size + 1, 2, none⟩ = some (.int .u64 V.fl) := (hx).cell rfl
        have cx3 : w1.cell? ⟨w.heap.size + 1, 3, none⟩ = some (.int .u64 V.ct) := (hx).cell rfl
        have cx4 : w1.cell? ⟨w.heap.size + 1, 4, none⟩ = some (.int .u64 V.at9) := (hx).cell rfl
        have cx5 : w1.cell? ⟨w.heap.size + 1, 5, none⟩ = some (.int .u64 V.ls) := (hx).cell rfl
        clear hz hx HER HRB HRE HRZ HRS HFE HSE HS hres hj0
        go_wp2
        have RT := RY1.out.ret
        refine bodyPost_ret (rreplay_results (e := 0) RT.1 _ rfl rfl rfl) rfl ?_
        exact HGO.out _ a c V P HN.out RT.2.1 RY1.out.fs.1 RT.2.2

end Go.Proofs.Ytgopcaemgcnapaa.Clep

/- Edits that come in: a Meta, an Edit by value, and a row of Edits, opened. No conditions. -/
namespace Go.Proofs.Ytgopcaemgcnapaa.Clep
open Go.RowKit Go.ChangeShapes Go.WideShapes Go.Deep
set_option linter.unusedVariables false

/-- An Edit, and where its lists lie. -/
structure Er where
  da : Option Addr
  dn : Nat
  dc : Nat
  aa : Option Addr
  an : Nat
  ac : Nat
  E : Ed
def u64r (x : Int) : Prop := 0 ≤ x ∧ x ≤ 18446744073709551615
def i64r (x : Int) : Prop := -9223372036854775808 ≤ x ∧ x ≤ 9223372036854775807
/-- The Edit lies so in w; its numbers are numbers. -/
def Er.ok (w : World) (y : Er) : Prop := (Zs w y.da y.dn y.dc y.E.d ∧ y.dn ≤ 9223372036854775807) ∧ (Fs w y.aa y.an y.ac y.E.a ∧ y.an ≤ 9223372036854775807) ∧ i64r y.E.lg ∧ u64r y.E.fl ∧ u64r y.E.ct ∧ u64r y.E.at9 ∧ u64r y.E.ls
def Er.v (y : Er) : Value := edV y.da y.dn y.dc y.aa y.an y.ac y.E
def Er.cs (y : Er) : List Value := [.slice y.da y.dn y.dc, .slice y.aa y.an y.ac, .int .i64 y.E.lg, .int .u64 y.E.fl, .int .u64 y.E.ct, .int .u64 y.E.at9, .int .u64 y.E.ls]
theorem Er.ok.below {w w' : World} {B : Nat} {y : Er} (h : y.ok w) (hb : Below B w w') (hB : w.heap.size ≤ B) : y.ok w' := ⟨⟨h.1.1.below hb hB, h.1.2⟩, ⟨h.2.1.1.below hb hB, h.2.1.2⟩, h.2.2⟩
/-- The slice (ao, len, cap) leads to the Edits l. -/
def Es (w : World) (ao : Option Addr) (len cap : Nat) (l : List Er) : Prop :=
  l.length = len ∧ (len ≤ cap ∧ (ao = none → len = 0 ∧ cap = 0)) ∧ (∀ x ∈ l, x.ok w) ∧
    (0 < len → ∃ b off, ao = some ⟨b, off, none⟩ ∧ ∀ (i : Nat) (y : Er) (j : Nat) (u : Value), l[i]? = some y → y.cs[j]? = some u → w.cell? ⟨b, off + i * 7 + j, none⟩ = some u)
theorem es_nil (w : World) : Es w none 0 0 [] := ⟨rfl, ⟨Nat.le_refl _, fun _ => ⟨rfl, rfl⟩⟩, by simp, fun h => by omega⟩
theorem Es.below {w w' : World} {B : Nat} {ao : Option Addr} {len cap : Nat} {l : List Er} (h : Es w ao len cap l) (hb : Below B w w') (hB : w.heap.size ≤ B) : Es w' ao len cap l := by
  refine ⟨h.1, h.2.1, fun x hx => (h.2.2.1 x hx).below hb hB, fun h0 => ?_⟩
  obtain ⟨b, off, e, hc⟩ := h.2.2.2 h0
  refine ⟨b, off, e, fun i y j u hy hu => ?_⟩
  have hg := hc i y j u hy hu
  exact (hb.cell (p := ⟨b, off + i * 7 + j, none⟩) (Nat.lt_of_lt_of_le (World.block_lt_of_cell? w _ hg) hB)).trans hg
theorem es_at {w : World} {ao : Option Addr} {len cap : Nat} {l : List Er} (h : Es w ao len cap l) (k : Nat) (hk : k < len) : ∃ y b off, l[k]? = some y ∧ ao = some ⟨b, off, none⟩ ∧ y.ok w ∧
    w.cell? ⟨b, off + k * 7, none⟩ = some (.slice y.da y.dn y.dc) ∧ w.cell? ⟨b, off + k * 7 + 1, none⟩ = some (.slice y.aa y.an y.ac) ∧ w.cell? ⟨b, off + k * 7 + 2, none⟩ = some (.int .i64 y.E.lg) ∧ w.cell? ⟨b, off + k * 7 + 3, none⟩ = some (.int .u64 y.E.fl) ∧
    w.cell? ⟨b, off + k * 7 + 4, none⟩ = some (.int .u64 y.E.ct) ∧ w.cell? ⟨b, off + k * 7 + 5, none⟩ = some (.int .u64 y.E.at9) ∧ w.cell? ⟨b, off + k * 7 + 6, none⟩ = some (.int .u64 y.E.ls) := by
  obtain ⟨b, off, e, hc⟩ := h.2.2.2 (by omega)
  obtain ⟨y, hy⟩ : ∃ y, l[k]? = some y := ⟨_, List.getElem?_eq_getElem (by rw [h.1]; exact hk)⟩
  exact ⟨y, b, off, hy, e, h.2.2.1 y (List.mem_of_getElem? hy), hc k y 0 _ hy rfl, hc k y 1 _ hy rfl, hc k y 2 _ hy rfl, hc k y 3 _ hy rfl, hc k y 4 _ hy rfl, hc k y 5 _ hy rfl, hc k y 6 _ hy rfl⟩

theorem elist2 {α : Type} {cs : List α} (h : cs.length = 2) : ∃ c0 c1, cs = [c0, c1] := by
  match cs, h with
  | [c0, c1], _ => exact ⟨c0, c1, rfl⟩
theorem elist4 {α : Type} {cs : List α} (h : cs.length = 4) : ∃ c0 c1 c2 c3, cs = [c0, c1, c2, c3] := by
  match cs, h with
  | [c0, c1, c2, c3], _ => exact ⟨c0, c1, c2, c3, rfl⟩
theorem elist7 {α : Type} {cs : List α} (h : cs.length = 7) : ∃ c0 c1 c2 c3 c4 c5 c6, cs = [c0, c1, c2, c3, c4, c5, c6] := by
  match cs, h with
  | [c0, c1, c2, c3, c4, c5, c6], _ => exact ⟨c0, c1, c2, c3, c4, c5, c6, rfl⟩
theorem ecellsE : Try.prog.cellsOf 31 = 7 := by kernel_rfl
theorem ecellsF : Try.prog.cellsOf 29 = 2 := by kernel_rfl
theorem ecellsI : Try.prog.cellsOf 3 = 1 := by kernel_rfl
theorem ecellsU : Try.prog.cellsOf 24 = 1 := by kernel_rfl
theorem ecellsSI : Try.prog.cellsOf 22 = 1 := by kernel_rfl
theorem ecellsSF : Try.prog.cellsOf 23 = 1 := by kernel_rfl
theorem echoose {α : Type} [Inhabited α] {n : Nat} {P : Nat → α → Prop} (h : ∀ i, i < n → ∃ y, P i y) : ∃ q : Nat → α, ∀ i, i < n → P i (q i) := by
  refine ⟨fun i => if hi : i < n then Classical.choose (h i hi) else default, fun i hi => ?_⟩
  simp only [hi, dif_pos]
  exact Classical.choose_spec (h i hi)

section
variable {H : Type} {enc : TypeId × Value → H} {W : World} {base : Nat} {spare : Nat → Bool} {held : Bool}

set_option maxRecDepth 100000 in
theorem zs_trod {fuel : Nat} {cs : List Value} {x : DataW H × List MemPlace} (h : DataW.trod enc Try.prog W base spare held fuel 22 cs = some x) : ∃ a n c l, cs = [.slice a n c] ∧ Zs W a n c l ∧ n ≤ 9223372036854775807 := by
  rcases open_ints Try.underlying22 Try.underlying3 (by kernel_rfl) h with ⟨hcs, _⟩ | ⟨x, l, c, zs, hcs, _, hl, hm, hz, _, hcell, hwz⟩
  · exact ⟨none, 0, 0, [], hcs, zs_nil W, by omega⟩
  · have hzl : l ≤ zs.length := by rw [hz]; split <;> omega
    refine ⟨some x, l, c, zs.take l, hcs, ⟨by rw [List.length_take]; omega, ⟨hl, fun h => by cases h⟩, fun z hz' => i64_bounds (hwz z (List.mem_of_mem_take hz')), fun h0 => ?_⟩, by unfold maxLen at hm; omega⟩
    obtain ⟨b, off, spot⟩ := x
    have hc := hcell 0 (by omega)
    have hspot : spot = none := by simpa [Addr.add] using World.cell?_spot hc
    subst hspot
    refine ⟨b, off, rfl, fun i z hi => ?_⟩
    have hil : i < l := by have := (List.getElem?_eq_some_iff.1 hi).1; rw [List.length_take] at this; omega
    have := hcell i (by omega)
    rw [add_plain] at this
    rw [this]
    rw [List.getElem?_take_of_lt hil] at hi
    simp [List.getD, hi]

set_option maxRecDepth 100000 in
theorem file_cells {fuel : Nat} {cs : List Value} {x : DataW H × List MemPlace} (h : DataW.trod enc Try.prog W base spare held fuel 29 cs = some x) :
    ∃ y : Fi, cs = [.int .i64 y.L, .int .i64 y.N] ∧ y.wf := by
  obtain ⟨xs, n, _, _, hl, hlen, hf⟩ := DataW.trod_struct Try.underlying29 h
  rw [ecellsF] at hl
  obtain ⟨c0, c1, rfl⟩ := elist2 hl
  obtain ⟨x0, x1, rfl⟩ := elist2 (show xs.length = 2 from hlen)
  have g0 := hf 0 _ rfl
  have g1 := hf 1 _ rfl
  simp [ecellsI] at g0 g1
  obtain ⟨L, e0, _, w0⟩ := DataW.trod_int Try.underlying3 g0
  obtain ⟨N, e1, _, w1⟩ := DataW.trod_int Try.underlying3 g1
  cases e0; cases e1
  exact ⟨⟨L, N⟩, rfl, i64_bounds w0, i64_bounds w1⟩

set_option maxRecDepth 100000 in
theorem fs_trod {fuel : Nat} {cs : List Value} {x : DataW H × List MemPlace} (h : DataW.trod enc Try.prog W base spare held fuel 23 cs = some x) : ∃ a n c l, cs = [.slice a n c] ∧ Fs W a n c l ∧ n ≤ 9223372036854775807 := by
  haveI : Inhabited Fi := ⟨⟨0, 0⟩⟩
  rcases open_slice Try.underlying23 h with ⟨hcs, _⟩ | ⟨x, l, c, m, n, D, Pl, hcs, _, hl, hm, hmm, _, hx⟩
  · exact ⟨none, 0, 0, [], hcs, fs_nil W, by omega⟩
  · have hlm : l ≤ m := by rw [hmm]; split <;> omega
    have each : ∀ i, i < l → ∃ y : Fi, y.wf ∧ (∀ j u, [Value.int IntKind.i64 y.L, .int .i64 y.N][j]? = some u → W.cell? ((x.add (i * 2)).add j) = some u) := by
      intro i hi
      obtain ⟨cs', h1, h2⟩ := hx i (by omega)
      rw [ecellsF] at h1
      obtain ⟨y, e, hy⟩ := file_cells h2
      obtain ⟨_, hlen, hc⟩ := World.cells?_some h1
      refine ⟨y, hy, fun j u hu => ?_⟩
      rw [← e] at hu
      rw [hc j (by have := (List.getElem?_eq_some_iff.1 hu).1; omega)]
      exact hu
    obtain ⟨q, hq⟩ := echoose each
    refine ⟨some x, l, c, (List.range l).map q, hcs, ⟨by simp, ⟨hl, fun h => by cases h⟩, ?_, fun h0 => ?_⟩, by unfold maxLen at hm; omega⟩
    · intro y hy
      obtain ⟨i, hi, rfl⟩ := List.mem_map.1 hy
      exact (hq i (List.mem_range.1 hi)).1
    · obtain ⟨b, off, spot⟩ := x
      have hc := (hq 0 h0).2 0 _ rfl
      have hspot : spot = none := by simpa [Addr.add] using World.cell?_spot hc
      subst hspot
      refine ⟨b, off, rfl, fun i f hf => ?_⟩
      have hil : i < l := by have := (List.getElem?_eq_some_iff.1 hf).1; simpa using this
      have hfq : f = q i := by
        rw [List.getElem?_map, List.getElem?_range hil] at hf
        exact (Option.some.inj hf).symm
      subst hfq
      have h0' := (hq i hil).2 0 _ rfl
      have h1' := (hq i hil).2 1 _ rfl
      rw [add_plain, add_plain] at h0' h1'
      exact ⟨h0', h1'⟩

set_option maxRecDepth 100000 in
theorem edit_cells {fuel : Nat} {cs : List Value} {x : DataW H × List MemPlace} (h : DataW.trod enc Try.prog W base spare held fuel 31 cs = some x) : ∃ y : Er, cs = y.cs ∧ y.ok W := by
  obtain ⟨xs, n, _, _, hl, hlen, hf⟩ := DataW.trod_struct Try.underlying31 h
  rw [ecellsE] at hl
  obtain ⟨c0, c1, c2, c3, c4, c5, c6, rfl⟩ := elist7 hl
  obtain ⟨x0, x1, x2, x3, x4, x5, x6, rfl⟩ := elist7 (show xs.length = 7 from hlen)
  have g0 := hf 0 _ rfl
  have g1 := hf 1 _ rfl
  have g2 := hf 2 _ rfl
  have g3 := hf 3 _ rfl
  have g4 := hf 4 _ rfl
  have g5 := hf 5 _ rfl
  have g6 := hf 6 _ rfl
  simp [ecellsI, ecellsU, ecellsSI, ecellsSF] at g0 g1 g2 g3 g4 g5 g6
  obtain ⟨da, dn, dc, d, e0, hd, hdn⟩ := zs_trod g0
  obtain ⟨aa, an, ac, a, e1, ha, han⟩ := fs_trod g1
  obtain ⟨lg, e2, _, w2⟩ := DataW.trod_int Try.underlying3 g2
  obtain ⟨fl, e3, _, w3⟩ := DataW.trod_int Try.underlying24 g3
  obtain ⟨ct, e4, _, w4⟩ := DataW.trod_int Try.underlying24 g4
  obtain ⟨at9, e5, _, w5⟩ := DataW.trod_int Try.underlying24 g5
  obtain ⟨ls, e6, _, w6⟩ := DataW.trod_int Try.underlying24 g6
  cases e0; cases e1; cases e2; cases e3; cases e4; cases e5; cases e6
  exact ⟨⟨da, dn, dc, aa, an, ac, ⟨d, a, lg, fl, ct, at9, ls⟩⟩, rfl, ⟨hd, hdn⟩, ⟨ha, han⟩, i64_bounds w2, u64_bounds w3, u64_bounds w4, u64_bounds w5, u64_bounds w6⟩

set_option maxRecDepth 100000 in
theorem open_edit {r : Reach} {b0 : Nat} {v : Value} {d : DataW H} {p : List MemPlace} (hv : Value.okWide Try.prog W r b0 31 v) (h : DataW.Trod enc Try.prog W base spare held 31 v d p) :
    ∃ y : Er, v = .agg #[.slice y.da y.dn y.dc, .slice y.aa y.an y.ac, .int .i64 y.E.lg, .int .u64 y.E.fl, .int .u64 y.E.ct, .int .u64 y.E.at9, .int .u64 y.E.ls] ∧ y.ok W := by
  obtain ⟨cs, rfl, _⟩ := okWide_struct Try.underlying31 hv
  obtain ⟨fuel, hf⟩ := h
  obtain ⟨y, e, hy⟩ := edit_cells hf
  refine ⟨y, ?_, hy⟩
  obtain ⟨l⟩ := cs
  simp only [Value.cells] at e
  rw [e]
  rfl

set_option maxRecDepth 100000 in
theorem open_edits {a : Option Addr} {len cap : Nat} {d : DataW H} {p : List MemPlace} (h : DataW.Trod enc Try.prog W base spare held 57 (.slice a len cap) d p) :
    ∃ l, Es W a len cap l ∧ len ≤ 9223372036854775807 := by
  haveI : Inhabited Er := ⟨⟨none, 0, 0, none, 0, 0, ⟨[], [], 0, 0, 0, 0, 0⟩⟩⟩
  obtain ⟨fuel, hf⟩ := h
  rcases open_slice Try.underlying57 hf with ⟨hcs, _⟩ | ⟨x, l, c, m, n, D, Pl, hcs, _, hl, hm, hmm, _, hx⟩
  · simp [Value.cells] at hcs
    obtain ⟨rfl, rfl, rfl⟩ := hcs
    exact ⟨[], es_nil W, by omega⟩
  · simp [Value.cells] at hcs
    obtain ⟨rfl, rfl, rfl⟩ := hcs
    have hlm : len ≤ m := by rw [hmm]; split <;> omega
    have each : ∀ i, i < len → ∃ y : Er, y.ok W ∧ (∀ j u, y.cs[j]? = some u → W.cell? ((x.add (i * 7)).add j) = some u) := by
      intro i hi
      obtain ⟨cs', h1, h2⟩ := hx i (by omega)
      rw [ecellsE] at h1
      obtain ⟨y, e, hy⟩ := edit_cells h2
      obtain ⟨_, hlen, hc⟩ := World.cells?_some h1
      refine ⟨y, hy, fun j u hu => ?_⟩
      rw [← e] at hu
      rw [hc j (by have := (List.getElem?_eq_some_iff.1 hu).1; omega)]
      exact hu
    obtain ⟨q, hq⟩ := echoose each
    refine ⟨(List.range len).map q, ⟨by simp, ⟨hl, fun h => by cases h⟩, ?_, fun h0 => ?_⟩, by unfold maxLen at hm; omega⟩
    · intro y hy
      obtain ⟨i, hi, rfl⟩ := List.mem_map.1 hy
      exact (hq i (List.mem_range.1 hi)).1
    · obtain ⟨b, off, spot⟩ := x
      have hc := (hq 0 h0).2 0 _ rfl
      have hspot : spot = none := by simpa [Addr.add] using World.cell?_spot hc
      subst hspot
      refine ⟨b, off, rfl, fun i y j u hy hu => ?_⟩
      have hil : i < len := by have := (List.getElem?_eq_some_iff.1 hy).1; simpa using this
      have hfq : y = q i := by
        rw [List.getElem?_map, List.getElem?_range hil] at hy
        exact (Option.some.inj hy).symm
      subst hfq
      have h0' := (hq i hil).2 j u hu
      rw [add_plain, add_plain] at h0'
      exact h0'
end

end Go.Proofs.Ytgopcaemgcnapaa.Clep

/- A text turned into bytes: a row that may be written. Conditions: at most 2^63 bytes. -/
namespace Go.Proofs.Ytgopcaemgcnapaa.Clep
open Go.RowKit
set_option linter.unusedVariables false
set_option maxRecDepth 10000

/-- A row of bytes in block g, with room up to cap, that may be written. -/
structure Rm (w : World) (g cap : Nat) (zs : List Int) : Prop where
  le : zs.length ≤ cap
  max : cap ≤ maxLen
  range : ∀ z ∈ zs, 0 ≤ z ∧ z < 256
  cell : ∀ i, i < zs.length → w.cell? ⟨g, i, none⟩ = some (.int .u8 (zs.getD i 0))
  some : ∀ i, i < cap → (w.cell? ⟨g, i, none⟩).isSome = true
  free : ∀ i, i < cap → w.frozen? ⟨g, i, none⟩ = false
theorem rm_str (w : World) (zs : List Int) (hz : ∀ z ∈ zs, 0 ≤ z ∧ z < 256) (hl : zs.length ≤ maxLen) : ∃ cap w', (convert 9 35 (.string (strOfNums zs))).run Try.prog w = .ok (.slice (some ⟨w.heap.size, 0, none⟩) zs.length cap) w' ∧
    zs.length ≤ cap ∧ Hid (Below w.heap.size w w') ∧ Hid (Rm w' w.heap.size cap zs) := by
  have hs := str_size zs
  have hrun := Go.Lib.run_convert_string_bytes (P := Try.prog) w 9 35 5 (strOfNums zs) Try.underlying9 Try.underlying35 Try.underlying5
  rw [hs] at hrun
  have hge := grownCap_ge w zs.length 0 5
  have hcs : (Go.Lib.bytesCells w 5 (strOfNums zs)).size = grownCap w zs.length 0 5 := by
    have h1 : (strOfNums zs).data.size = zs.length := hs
    simp only [Go.Lib.bytesCells, Array.size_append, Array.size_map, Array.size_replicate, h1, hs]
    omega
  refine ⟨_, _, hrun, hge, hide ?_, hide ⟨hge, grownCap_le_maxLen _ _ _ _ hl, hz, fun i hi => ?_, fun i hi => ?_, fun i hi => ?_⟩⟩
  · exact ⟨rfl, rfl, rfl, by rw [Go.Lib.bytesWorld_size]; omega, fun k hk => Go.Lib.bytesWorld_at_old w _ _ k hk⟩
  · rw [Go.Lib.bytesWorld_cell w _ _ i (by rw [hs]; exact hi)]
    have hr := hz (zs[i]) (List.getElem_mem hi)
    simp [strOfNums, List.getD, List.getElem?_eq_getElem hi]
    omega
  · simp only [World.cell?, Go.Lib.bytesWorld_at_new]
    rw [Array.getElem?_eq_getElem (by rw [hcs]; exact hi)]
    rfl
  · simp only [World.frozen?, Go.Lib.bytesWorld_at_new]
    simp [hcs]
    omega
theorem xor_range (a b : Int) : 0 ≤ bits BinOp.xor IntKind.u8 a b ∧ bits BinOp.xor IntKind.u8 a b < 256 := by
  have e : bits .xor .u8 a b = IntKind.u8.wrap ((BitVec.ofInt 8 a ^^^ BitVec.ofInt 8 b).toNat : Int) := rfl
  rw [e]
  simp [IntKind.wrap, IntKind.bits, IntKind.signed]
  omega
theorem Rm.set {w : World} {g cap : Nat} {zs : List Int} (h : Rm w g cap zs) (p : Nat) (hp : p < zs.length) (v : Int) (hv : 0 ≤ v ∧ v < 256) : Rm (w.setCell ⟨g, p, none⟩ (.int .u8 v)) g cap (zs.set p v) := by
  refine ⟨by rw [List.length_set]; exact h.le, h.max, fun z hz => ?_, fun i hi => ?_, fun i hi => ?_, fun i hi => ?_⟩
  · rcases List.mem_or_eq_of_mem_set hz with q | rfl
    · exact h.range z q
    · exact hv
  · rw [List.length_set] at hi
    by_cases e : i = p
    · subst e
      rw [World.cell?_setCell_same w ⟨g, i, none⟩ _ (h.cell i hi)]
      simp [List.getD, hi]
    · rw [World.cell?_setCell_other w ⟨g, p, none⟩ ⟨g, i, none⟩ _ (by intro q; injection q with q1 q2; omega), h.cell i hi]
      simp [List.getD, Ne.symm e]
  · by_cases e : i = p
    · subst e
      rw [World.cell?_setCell_same w ⟨g, i, none⟩ _ (h.cell i hp)]; rfl
    · rw [World.cell?_setCell_other w ⟨g, p, none⟩ ⟨g, i, none⟩ _ (by intro q; injection q with q1 q2; omega)]
      exact h.some i hi
  · simp [h.free i hi]

end Go.Proofs.Ytgopcaemgcnapaa.Clep

/- What the statement EditApplies holds between its steps: one View in two variables, the log of the Edits that made it. No conditions. Written by wip/tools/gen15applies.py. -/
namespace Go.Proofs.Ytgopcaemgcnapaa.Clep
open Go.RowKit
set_option linter.unusedVariables false
set_option maxRecDepth 10000

structure Sa (w W : World) (V : Vw) (av : Option Addr) (cv : Nat) (aw : Option Addr) (cw : Nat) : Prop where
  v : Ek W w.heap.size #[.int .i64 V.lg, .slice av V.f.length cv, .int .u64 V.fl, .int .u64 V.ct, .int .u64 V.at9, .int .u64 V.ls] 26
  u : Ek W (w.heap.size + 1) #[.int .i64 V.lg, .slice aw V.f.length cw, .int .u64 V.fl, .int .u64 V.ct, .int .u64 V.at9, .int .u64 V.ls] 26
  fv : OwnF W (w.heap.size + 2) (.slice av V.f.length cv) V.f
  fu : OwnF W (w.heap.size + 2) (.slice aw V.f.length cw) V.f
  cc : cv ≤ 9223372036854775807 ∧ cw ≤ 9223372036854775807
  wf : ∀ x ∈ V.f, x.wf
  bel : Below w.heap.size w W
  sz : w.heap.size + 2 ≤ W.heap.size
theorem Sa.keep {w W W' : World} {V : Vw} {av aw : Option Addr} {cv cw : Nat} (h : Sa w W V av cv aw cw) (hb : Below W.heap.size W W') : Sa w W' V av cv aw cw :=
  ⟨h.v.below hb h.v.lt, h.u.below hb h.u.lt, ownF_keep h.fv hb, ownF_keep h.fu hb, h.cc, h.wf, h.bel.trans (hb.mono h.bel.size), Nat.le_trans h.sz hb.size⟩
theorem sa_start (w : World) : Sa w ((w.alloc (Obj.cells #[.int .i64 0, .slice none 0 0, .int .u64 0, .int .u64 0, .int .u64 0, .int .u64 0] 26)).alloc (Obj.cells #[.int .i64 0, .slice none 0 0, .int .u64 0, .int .u64 0, .int .u64 0, .int .u64 0] 26)) zV none 0 none 0 := by
  have A0 := (Below.refl w.heap.size w).alloc (Nat.le_refl _) (Obj.cells #[.int .i64 0, .slice none 0 0, .int .u64 0, .int .u64 0, .int .u64 0, .int .u64 0] 26)
  have A1 := (Below.refl _ (w.alloc (Obj.cells #[.int .i64 0, .slice none 0 0, .int .u64 0, .int .u64 0, .int .u64 0, .int .u64 0] 26))).alloc (Nat.le_refl _) (Obj.cells #[.int .i64 0, .slice none 0 0, .int .u64 0, .int .u64 0, .int .u64 0, .int .u64 0] 26)
  have k0 := (ek_new w #[.int .i64 0, .slice none 0 0, .int .u64 0, .int .u64 0, .int .u64 0, .int .u64 0] 26).below A1 (ek_new w _ _).lt
  have k1 := ek_new (w.alloc (Obj.cells #[.int .i64 0, .slice none 0 0, .int .u64 0, .int .u64 0, .int .u64 0, .int .u64 0] 26)) #[.int .i64 0, .slice none 0 0, .int .u64 0, .int .u64 0, .int .u64 0, .int .u64 0] 26
  have hsz2 : (w.alloc (Obj.cells #[.int .i64 0, .slice none 0 0, .int .u64 0, .int .u64 0, .int .u64 0, .int .u64 0] 26)).heap.size = w.heap.size + 1 := by simp
  rw [hsz2] at k1
  exact ⟨k0, k1, ownF_nil _ _, ownF_nil _ _, ⟨by omega, by omega⟩, by simp [zV], A0.trans (A1.mono (by simp)), by simp⟩
section
variable {w W : World} {V X : Vw} {av aw a a' : Option Addr} {cv cw c c' : Nat}
/-- Both Views put, the first one first. -/
theorem Sa.put (h : Sa w W V av cv aw cw) (hf : OwnF W (w.heap.size + 2) (.slice a X.f.length c) X.f) (hf' : OwnF W (w.heap.size + 2) (.slice a' X.f.length c') X.f) (hc : c ≤ 9223372036854775807 ∧ c' ≤ 9223372036854775807) (hw : ∀ x ∈ X.f, x.wf) : Sa w (set6 (set6 W w.heap.size (.int .i64 X.lg) (.slice a X.f.length c) (.int .u64 X.fl) (.int .u64 X.ct) (.int .u64 X.at9) (.int .u64 X.ls)) (w.heap.size + 1) (.int .i64 X.lg) (.slice a' X.f.length c') (.int .u64 X.fl) (.int .u64 X.ct) (.int .u64 X.at9) (.int .u64 X.ls)) X a c a' c' := by
  have g1 := gset6 W w.heap.size (.int .i64 X.lg) (.slice a X.f.length c) (.int .u64 X.fl) (.int .u64 X.ct) (.int .u64 X.at9) (.int .u64 X.ls)
  have g2 := gset6 (set6 W w.heap.size (.int .i64 X.lg) (.slice a X.f.length c) (.int .u64 X.fl) (.int .u64 X.ct) (.int .u64 X.at9) (.int .u64 X.ls)) (w.heap.size + 1) (.int .i64 X.lg) (.slice a' X.f.length c') (.int .u64 X.fl) (.int .u64 X.ct) (.int .u64 X.at9) (.int .u64 X.ls)
  have z1 := zset h.v h.bel (Nat.le_refl _) (.int .i64 X.lg) (.slice a X.f.length c) (.int .u64 X.fl) (.int .u64 X.ct) (.int .u64 X.at9) (.int .u64 X.ls)
  have u1 := h.u.gb g1 (fun e => by have : w.heap.size + 1 = w.heap.size := Option.some.inj e; omega)
  have z2 := zset u1 z1.2 (Nat.le_succ _) (.int .i64 X.lg) (.slice a' X.f.length c') (.int .u64 X.fl) (.int .u64 X.ct) (.int .u64 X.at9) (.int .u64 X.ls)
  have n1 : ∀ k, (some w.heap.size : Option Nat) = some k → k < w.heap.size + 2 := fun k hk => by have := Option.some.inj hk; omega
  have n2 : ∀ k, (some (w.heap.size + 1) : Option Nat) = some k → k < w.heap.size + 2 := fun k hk => by have := Option.some.inj hk; omega
  exact ⟨Ek.gb z1.1 g2 (fun e => by have : w.heap.size = w.heap.size + 1 := Option.some.inj e; omega), z2.1, ownF_grown (ownF_grown hf g1 n1) g2 n2, ownF_grown (ownF_grown hf' g1 n1) g2 n2, hc, hw, z2.2, Nat.le_trans (Nat.le_trans h.sz g1.size) g2.size⟩
theorem Sa.put' (h : Sa w W V av cv aw cw) (hf : OwnF W (w.heap.size + 2) (.slice a X.f.length c) X.f) (hf' : OwnF W (w.heap.size + 2) (.slice a' X.f.length c') X.f) (hc : c ≤ 9223372036854775807 ∧ c' ≤ 9223372036854775807) (hw : ∀ x ∈ X.f, x.wf) : Sa w (set6 (set6 W (w.heap.size + 1) (.int .i64 X.lg) (.slice a' X.f.length c') (.int .u64 X.fl) (.int .u64 X.ct) (.int .u64 X.at9) (.int .u64 X.ls)) w.heap.size (.int .i64 X.lg) (.slice a X.f.length c) (.int .u64 X.fl) (.int .u64 X.ct) (.int .u64 X.at9) (.int .u64 X.ls)) X a c a' c' := by
  have g1 := gset6 W (w.heap.size + 1) (.int .i64 X.lg) (.slice a' X.f.length c') (.int .u64 X.fl) (.int .u64 X.ct) (.int .u64 X.at9) (.int .u64 X.ls)
  have g2 := gset6 (set6 W (w.heap.size + 1) (.int .i64 X.lg) (.slice a' X.f.length c') (.int .u64 X.fl) (.int .u64 X.ct) (.int .u64 X.at9) (.int .u64 X.ls)) w.heap.size (.int .i64 X.lg) (.slice a X.f.length c) (.int .u64 X.fl) (.int .u64 X.ct) (.int .u64 X.at9) (.int .u64 X.ls)
  have z1 := zset h.u h.bel (Nat.le_succ _) (.int .i64 X.lg) (.slice a' X.f.length c') (.int .u64 X.fl) (.int .u64 X.ct) (.int .u64 X.at9) (.int .u64 X.ls)
  have u1 := h.v.gb g1 (fun e => by have : w.heap.size = w.heap.size + 1 := Option.some.inj e; omega)
  have z2 := zset u1 z1.2 (Nat.le_refl _) (.int .i64 X.lg) (.slice a X.f.length c) (.int .u64 X.fl) (.int .u64 X.ct) (.int .u64 X.at9) (.int .u64 X.ls)
  have n1 : ∀ k, (some w.heap.size : Option Nat) = some k → k < w.heap.size + 2 := fun k hk => by have := Option.some.inj hk; omega
  have n2 : ∀ k, (some (w.heap.size + 1) : Option Nat) = some k → k < w.heap.size + 2 := fun k hk => by have := Option.some.inj hk; omega
  exact ⟨z2.1, Ek.gb z1.1 g2 (fun e => by have : w.heap.size + 1 = w.heap.size := Option.some.inj e; omega), ownF_grown (ownF_grown hf g1 n2) g2 n1, ownF_grown (ownF_grown hf' g1 n2) g2 n1, hc, hw, z2.2, Nat.le_trans (Nat.le_trans h.sz g1.size) g2.size⟩
end
theorem vok_wf {V : Vw} (h : vok V = true) : ∀ x ∈ V.f, x.wf := fun x hx => by
  have := List.all_eq_true.1 (vok_parts2 h).2.1 x hx
  unfold Fi.ok at this
  have h9 := of_decide_eq_true this
  unfold Fi.wf
  omega
theorem apE_ok : ∀ (l : List Ed) (V U : Vw), apE V l = some U → (l = [] ∧ U = V) ∨ vok U = true
  | [], V, U, h => .inl ⟨rfl, (Option.some.inj h).symm⟩
  | E :: l, V, U, h => by
    right
    rw [apE_cons] at h
    split at h
    · cases h
    · rename_i W hW
      rcases apE_ok l W U h with ⟨_, rfl⟩ | h2
      · exact appl_ok hW
      · exact h2
theorem apE_once {l : List Ed} {V : Vw} (h : apE zV l = some V) : once V.f = true ∧ V.f.length ≤ 40 := by
  rcases apE_ok l zV V h with ⟨_, rfl⟩ | h2
  · exact ⟨rfl, by decide⟩
  · exact vok_once h2
/-- What the statement holds between its rounds. -/
def SaL (w W : World) (S : ByteArray) (i : Nat) : Prop := ∃ (l : List Ed) (V : Vw) (av : Option Addr) (cv : Nat) (aw : Option Addr) (cw : Nat), Sa w W V av cv aw cw ∧ apE zV l = some V ∧ (∀ E ∈ l, Eg E) ∧ l.length ≤ i ∧ S = strOfNums (el l)
/-- A View in a block of its own, made since B. -/
def Vb (W : World) (B : Nat) (X : Vw) (N : Nat) (s : Value) : Prop := ∃ p a c, s = .pointer (some ⟨p, 0, none⟩) ∧ B ≤ p ∧ Ek W p #[.int .i64 X.lg, .slice a N c, .int .u64 X.fl, .int .u64 X.ct, .int .u64 X.at9, .int .u64 X.ls] 26 ∧ c ≤ 9223372036854775807 ∧ OwnF W B (.slice a N c) X.f
theorem Vb.keep {W W' : World} {B : Nat} {X : Vw} {N : Nat} {s : Value} (h : Vb W B X N s) (hb : Below W.heap.size W W') : Vb W' B X N s := by
  obtain ⟨p, a, c, h1, h2, h3, h4, h5⟩ := h
  exact ⟨p, a, c, h1, h2, h3.below hb h3.lt, h4, ownF_keep h5 hb⟩

theorem Vb.far {W W' : World} {B R : Nat} {X : Vw} {N : Nat} {s : Value} (h : Vb W B X N s) (hg : W.grownBy W' (some R)) (hR : R < B) : Vb W' B X N s := by
  obtain ⟨p, a, c, h1, h2, h3, h4, h5⟩ := h
  exact ⟨p, a, c, h1, h2, h3.gb hg (fun e => by have := Option.some.inj e; omega), h4, ownF_grown h5 hg (fun k hk => by have := Option.some.inj hk; omega)⟩
theorem SaL.more {w W W' : World} {S : ByteArray} {i : Nat} (h : SaL w W S i) (hb : Below W.heap.size W W') : SaL w W' S i := by
  obtain ⟨l, V, av, cv, aw, cw, h1, h2, h3, h4, h5⟩ := h
  exact ⟨l, V, av, cv, aw, cw, h1.keep hb, h2, h3, h4, h5⟩
theorem SaL.keep {w W W' : World} {S : ByteArray} {i : Nat} (h : SaL w W S i) (hb : Below W.heap.size W W') : SaL w W' S (i + 1) := by
  obtain ⟨l, V, av, cv, aw, cw, h1, h2, h3, h4, h5⟩ := h
  exact ⟨l, V, av, cv, aw, cw, h1.keep hb, h2, h3, by omega, h5⟩

theorem Rm.keepB {w w' : World} {g cap : Nat} {zs : List Int} (h : Rm w g cap zs) (hb : Below w.heap.size w w') : Rm w' g cap zs := by
  have hk : ∀ i, i < cap → w'.heap[g]? = w.heap[g]? := fun i hi => by
    obtain ⟨v, hv⟩ := Option.isSome_iff_exists.1 (h.some i hi)
    exact hb.block g (World.block_lt_of_cell? w _ hv)
  have hle := h.le
  refine ⟨h.le, h.max, h.range, fun i hi => ?_, fun i hi => ?_, fun i hi => ?_⟩
  · exact (World.cell?_of_block (w := w) (a := ⟨g, i, none⟩) (hk i (by omega))).trans (h.cell i hi)
  · rw [World.cell?_of_block (w := w) (a := ⟨g, i, none⟩) (hk i hi)]; exact h.some i hi
  · have := h.free i hi
    simp only [World.frozen?, hk i hi] at this ⊢
    exact this
theorem rm_bs0 {w : World} {g cap : Nat} {zs : List Int} (h : Rm w g cap zs) : Bs w (some ⟨g, 0, none⟩) zs.length cap zs := ⟨rfl, ⟨h.le, fun e => by cases e⟩, range_of h.range, fun _ => ⟨g, 0, rfl, fun i hi => by rw [Nat.zero_add]; exact h.cell i hi⟩⟩
/-- The bytes from the row's beginning on. -/
theorem rm_part {w : World} {g cap : Nat} {zs : List Int} (h : Rm w g cap zs) (n : Nat) (hn : n ≤ zs.length) : Bs w (some ⟨g, 0, none⟩) n cap (zs.take n) := by
  have h1 := (rm_bs0 h).cut 0 n (by omega) hn
  rw [Nat.sub_zero, Nat.sub_zero, List.drop_zero, show cut (some ⟨g, 0, none⟩) cap 0 = some ⟨g, 0, none⟩ from by unfold cut; split <;> rfl] at h1
  exact h1
theorem sameV_true {a b : Option Addr} {n c n' c' : Nat} {A B : Vw} {w : World} (hAB : A = B) (h0 : Fs w a n c A.f) (h1 : Fs w b n' c' B.f) (hn : n ≤ 9223372036854775807) (hn' : n' ≤ 9223372036854775807) :
    Calls Try.prog 12 #[vwV a n c A, vwV b n' c' B] w fun e w' => e = .returned (.bool true) ∧ Below w.heap.size w w' :=
  (sameview_any a b n c n' c' A B w h0 h1 hn hn').mono fun e w' ⟨o, h1, h2, h3⟩ => by rw [h2.2 hAB] at h1; exact ⟨h1, h3⟩

end Go.Proofs.Ytgopcaemgcnapaa.Clep

/- The region of x, ok := F(v, l[i]): what each slot holds once its operation has come up. No conditions. -/
namespace Go.Proofs.Ytgopcaemgcnapaa.Clep
open Go.RowKit
set_option linter.unusedVariables false
set_option maxRecDepth 10000

/-- What each slot of the region holds. -/
def PTh (H : Nat) (VC : Value) (ao : Option Addr) (len cap k b off : Nat) (YV : Value) (N : Nat) (X : Vw) (o : Bool) : (Nat → Bool) → Nat → Value → World → Prop := fun L i v W => match i with
  | 0 => v = VC
  | 1 => v = .slice ao len cap
  | 2 => v = .int .i64 (k : Int)
  | 3 => v = .pointer (some ⟨b, off + k * 7, none⟩)
  | 4 => v = YV
  | 5 => ∃ a c, v = .tuple #[.agg #[.int .i64 X.lg, .slice a N c, .int .u64 X.fl, .int .u64 X.ct, .int .u64 X.at9, .int .u64 X.ls], .bool o] ∧ c ≤ 9223372036854775807 ∧ (L 10 = false → OwnF W H (.slice a N c) X.f)
  | 6 => ∃ a c, v = .tuple #[.agg #[.int .i64 X.lg, .slice a N c, .int .u64 X.fl, .int .u64 X.ct, .int .u64 X.at9, .int .u64 X.ls], .bool o] ∧ c ≤ 9223372036854775807 ∧ (L 10 = false → OwnF W H (.slice a N c) X.f)
  | 7 => ∃ a c, v = .agg #[.int .i64 X.lg, .slice a N c, .int .u64 X.fl, .int .u64 X.ct, .int .u64 X.at9, .int .u64 X.ls] ∧ c ≤ 9223372036854775807 ∧ (L 10 = false → OwnF W H (.slice a N c) X.f)
  | 8 => v = .bool o
  | 9 => ∃ p, v = .pointer (some ⟨p, 0, none⟩) ∧ H ≤ p ∧ (L 10 = false → Ek W p #[.int .i64 0, .slice none 0 0, .int .u64 0, .int .u64 0, .int .u64 0, .int .u64 0] 26) ∧ (L 10 = true → ∃ a c, Ek W p #[.int .i64 X.lg, .slice a N c, .int .u64 X.fl, .int .u64 X.ct, .int .u64 X.at9, .int .u64 X.ls] 26 ∧ c ≤ 9223372036854775807 ∧ OwnF W H (.slice a N c) X.f)
  | 11 => v = .bool o
  | _ => True
theorem pth_keep {H : Nat} {VC : Value} {ao : Option Addr} {len cap i b off : Nat} {YV : Value} {N : Nat} {X : Vw} {o : Bool} {L L' : Nat → Bool} {W W' : World} (hL : L' 10 = L 10) (hb : Below W.heap.size W W') : ∀ j u, PTh H VC ao len cap i b off YV N X o L j u W → PTh H VC ao len cap i b off YV N X o L' j u W' := by
  intro j u h
  match j, h with
  | 0, h => exact h
  | 1, h => exact h
  | 2, h => exact h
  | 3, h => exact h
  | 4, h => exact h
  | 5, ⟨a, c, h1, h2, h3⟩ => exact ⟨a, c, h1, h2, fun e => ownF_keep (h3 (hL ▸ e)) hb⟩
  | 6, ⟨a, c, h1, h2, h3⟩ => exact ⟨a, c, h1, h2, fun e => ownF_keep (h3 (hL ▸ e)) hb⟩
  | 7, ⟨a, c, h1, h2, h3⟩ => exact ⟨a, c, h1, h2, fun e => ownF_keep (h3 (hL ▸ e)) hb⟩
  | 8, h => exact h
  | 9, ⟨p, h1, h2, h3, h4⟩ => exact ⟨p, h1, h2, fun e => (h3 (hL ▸ e)).below hb (h3 (hL ▸ e)).lt, fun e => by
      obtain ⟨a, c, h5, h6, h7⟩ := h4 (hL ▸ e)
      exact ⟨a, c, h5.below hb h5.lt, h6, ownF_keep h7 hb⟩⟩
  | 10, h => trivial
  | 11, h => exact h
  | k + 12, h => trivial
theorem pth_store {H : Nat} {VC : Value} {ao : Option Addr} {len cap i b off : Nat} {YV : Value} {N : Nat} {X : Vw} {o : Bool} {L L' : Nat → Bool} {W W' : World} (hL : L' 10 = true) : ∀ j u, (j = 9 → PTh H VC ao len cap i b off YV N X o L' 9 u W') → PTh H VC ao len cap i b off YV N X o L j u W → PTh H VC ao len cap i b off YV N X o L' j u W' := by
  intro j u h9 h
  match j, h with
  | 0, h => exact h
  | 1, h => exact h
  | 2, h => exact h
  | 3, h => exact h
  | 4, h => exact h
  | 5, ⟨a, c, h1, h2, h3⟩ => exact ⟨a, c, h1, h2, fun e => by rw [hL] at e; cases e⟩
  | 6, ⟨a, c, h1, h2, h3⟩ => exact ⟨a, c, h1, h2, fun e => by rw [hL] at e; cases e⟩
  | 7, ⟨a, c, h1, h2, h3⟩ => exact ⟨a, c, h1, h2, fun e => by rw [hL] at e; cases e⟩
  | 8, h => exact h
  | 9, h => exact h9 rfl
  | 10, h => trivial
  | 11, h => exact h
  | k + 12, h => trivial
/-- What the memory holds meanwhile. -/
def PG (wS : World) : (Nat → Bool) → World → Prop := fun L W => Below wS.heap.size wS W ∧ (L 10 = true → ∀ j, j < 10 → j ≠ 8 → L j = true)
theorem pg_upd {wS : World} {L : Nat → Bool} {W : World} (i : Nat) (hi : i ≠ 10) (h : PG wS L W) : PG wS (upd L i) W := ⟨h.1, fun e j hj h8 => upd_more (h.2 (by unfold upd at e; rwa [if_neg (Ne.symm hi)] at e) j hj h8)⟩
theorem pg_below {wS : World} {L : Nat → Bool} {W W' : World} (h : PG wS L W) (hb : Below W.heap.size W W') : PG wS L W' := ⟨h.1.trans (hb.mono h.1.size), h.2⟩
theorem pg10 {wS : World} {L : Nat → Bool} {W : World} (h : PG wS L W) {i : Nat} (hi : i < 10) (h8 : i ≠ 8) (hL : L i = false) : L 10 = false := by
  cases e : L 10 with
  | false => rfl
  | true => rw [h.2 e i hi h8] at hL; cases hL
theorem waits_but {ops : Array Oper} {i n k : Nat} (h : (List.range n).all (fun j => j == k || waits ops i j) = true) : ∀ j, j < n → j ≠ k → waits ops i j = true := fun j hj hk => by
  have := List.all_eq_true.1 h j (List.mem_range.2 hj)
  simpa [hk] using this
theorem upd10 {L : Nat → Bool} {i : Nat} (hi : 10 ≠ i) : upd L i 10 = L 10 := by unfold upd; rw [if_neg hi]

end Go.Proofs.Ytgopcaemgcnapaa.Clep

/- What the document's own Edit does when called (a walk over the translated program): for any Edit that may be. -/
namespace Go.Proofs.Ytgopcaemgcnapaa.Clep
open Go.RowKit
set_option linter.unusedVariables false
set_option maxRecDepth 10000

/-- The number n as a text. -/
def NumS (n : Int) (s : ByteArray) : Prop := 0 ≤ n ∧ n ≤ 18446744073709551615 ∧ strOfNums (pu n) = s
theorem nums_of (n : Int) (h0 : 0 ≤ n) (h1 : n ≤ 18446744073709551615) : ∃ s, NumS n s ∧ s.size ≤ 10 := ⟨_, ⟨h0, h1, rfl⟩, by rw [str_size]; exact (pu_len n).2⟩

set_option maxHeartbeats 4000000 in
theorem redit_any (da : Option Addr) (dn dc : Nat) (aa : Option Addr) (an ac : Nat) (E : Ed) (w : World) (hd : Zs w da dn dc E.d) (ha : Fs w aa an ac E.a) (hm : emay E = 0) (hu : 0 ≤ E.fl ∧ 0 ≤ E.ct ∧ 0 ≤ E.at9 ∧ 0 ≤ E.ls) :
    Calls Try.prog 16 #[edV da dn dc aa an ac E] w fun e w' => e = .returned (.string (strOfNums (fr 6 (ebd E)))) ∧ Below w.heap.size w w' := by
  have hld := hd.1
  have hla := ha.1
  have HD := hide (fun W (hW : Below w.heap.size w W) => hd.below hW (Nat.le_refl _))
  have HA := hide (fun W (hW : Below w.heap.size w W) => ha.below hW (Nat.le_refl _))
  have hp := emay_parts hm
  have hel := ebd_len hm
  have HE := hide (show ebd E = li E.d ++ (pu (E.a.length : Int) ++ (fbs E.a ++ rest [E.lg, E.fl, E.ct, E.at9, E.ls] 0)) from rfl)
  generalize ebd E = R at *
  obtain ⟨d, a, lg, fl, ct, at9, ls⟩ := E
  unfold edV
  simp only at hld hla HD HA HE hp hu ⊢
  rw [hla] at HE
  obtain ⟨⟨hp1, hp2⟩, hp3, hp4, hp5, hp6, hp7, hp8, hp9⟩ := hp
  have hdn : dn ≤ 40 := by omega
  have han : an ≤ 40 := by omega
  have HP3 := hide hp3
  have HP4 := hide hp4
  have HRD := hide (show ByteL (li d) from li_range d (urange_of fun z hz => by have := hp3 z hz; omega) (by omega))
  have hlld := (li_len d (by omega)).2
  have hwlg : IntKind.u64.wrap lg = lg := by
    simp [IntKind.wrap, IntKind.bits, IntKind.signed]
    omega
  have hwan : IntKind.u64.wrap (an : Int) = (an : Int) := by
    simp [IntKind.wrap, IntKind.bits, IntKind.signed]
    omega
  clear hd ha hm hp3 hp4
  have A0 := (Below.refl w.heap.size w).alloc (Nat.le_refl _) (Obj.cells #[.slice da dn dc, .slice aa an ac, .int .i64 lg, .int .u64 fl, .int .u64 ct, .int .u64 at9, .int .u64 ls] 31)
  have HB0 := hide A0
  have hK := hide (show ∀ W, Below (w.heap.size + 1) (w.alloc (Obj.cells #[.slice da dn dc, .slice aa an ac, .int .i64 lg, .int .u64 fl, .int .u64 ct, .int .u64 at9, .int .u64 ls] 31)) W → Ek W w.heap.size #[.slice da dn dc, .slice aa an ac, .int .i64 lg, .int .u64 fl, .int .u64 ct, .int .u64 at9, .int .u64 ls] 31 from fun W hW => (ek_new w _ _).below hW (by omega))
  clear A0
  go_enter Try.func16, Try.ntmps16
  go_wp2_with fail
  generalize hwa : w.alloc (Obj.cells #[.slice da dn dc, .slice aa an ac, .int .i64 lg, .int .u64 fl, .int .u64 ct, .int .u64 at9, .int .u64 ls] 31) = wa at *
  have hsa : wa.heap.size = w.heap.size + 1 := by rw [← hwa]; simp
  clear hwa
  have HBW := hide (show ∀ W, Below (w.heap.size + 1) wa W → Below w.heap.size w W ∧ w.heap.size + 1 ≤ W.heap.size from fun W hW => ⟨HB0.out.trans (hW.mono (by omega)), by have := hW.size; omega⟩)
  go_loopw [3, 4] (fun v s wr => ∃ k : Nat, k ≤ dn ∧ s = .int .i64 k ∧ Hid (OwnU wr (w.heap.size + 1) v (d.take k)) ∧ Hid (Below (w.heap.size + 1) wa wr)) (fun _ s _ => dn - (intOf s).toNat)
  case atStart => exact ⟨0, by omega, rfl, hide (ownU_nil _ _), hide (Below.refl _ _)⟩
  case round =>
    obtain ⟨k, hk, rfl, hown, hbel⟩ := hrel
    have k0 : wr.cell? ⟨w.heap.size, 0, none⟩ = some (.slice da dn dc) := (hK.out wr hbel.out).cell rfl
    by_cases hlt : k < dn
    · obtain ⟨z, b, off, hz, rfl, hc, hz1, hz2⟩ := zs_at (HD.out wr (HBW.out wr hbel.out).1) k hlt
      have hzr := HP3.out z (List.mem_of_getElem? hz)
      have hwz : IntKind.u64.wrap z = z := by
        simp [IntKind.wrap, IntKind.bits, IntKind.signed]
        omega
      have HT := hide (show d.take (k + 1) = d.take k ++ [z] from by rw [List.take_add_one, hz]; rfl)
      have HLT := hide (show (d.take k).length ≤ 100000 from by rw [List.length_take]; omega)
      have A1 := (Below.refl _ wr).alloc (Nat.le_refl _) (Obj.cells #[.int .u64 z] 24)
      have HO1 := hide (ownU_below hown.out A1)
      have HE1 := hide (ek_new wr #[.int .u64 z] 24)
      have HS1 := hide (Nat.le_trans (HBW.out wr hbel.out).2 A1.size)
      have HB1 := hide (hbel.out.trans (A1.mono (HBW.out wr hbel.out).2))
      clear hz hz1 hz2 A1
      go_wp2_with (first
        | (at_builtin; refine wpList_append_u rfl _ _ rfl (w.heap.size + 1) _ (d.take k) rfl HO1.out wr.heap.size z rfl HE1.out HLT.out HS1.out ?_; intro v2 w2 o2 g2 k2; have HO2 := hide o2; have HB2 := hide (HB1.out.grown g2 HS1.out k2); clear o2 g2 k2)
        | fail)
      go_roundw
      case rel => exact ⟨k + 1, by omega, by go_num, hide (by rw [HT.out]; exact HO2.out), HB2⟩
      case measure => simp [intOf]; omega
    · obtain rfl : k = dn := by omega
      have hown2 := hown.out
      rw [List.take_of_length_le (by omega)] at hown2
      obtain ⟨au, cu, hvu, hus⟩ := ownU_us hown2 (fun z hz => by have := HP3.out z hz; omega)
      rw [hld] at hvu hus
      subst hvu
      have HB1 := hide hbel.out
      have HUS := hide hus
      obtain ⟨s0, hs0⟩ : ∃ s, strOfNums (li d) = s := ⟨_, rfl⟩
      have hs0l : s0.size ≤ 410 := by rw [← hs0, str_size]; omega
      obtain ⟨s1, hs1, hs1l⟩ := nums_of (an : Int) (by omega) (by omega)
      have p1 : ∀ p : Kp wr, p.W.cell? ⟨w.heap.size, 1, none⟩ = some (.slice aa an ac) := fun p => (hK.out p.W (HB1.out.trans (p.h.mono (HBW.out wr HB1.out).2))).cell rfl
      have cL : Hid (∀ p : Kp wr, Calls Try.prog 37 #[.slice au k cu] p.W fun e w'' => e = .returned (.string s0) ∧ ∃ q : Kp wr, w'' = q.W) := hide fun p => kp_call (by rw [← hs0]; exact reflist_any au k cu d p.W (by omega) (HUS.out.below p.h (Nat.le_refl _)))
      have cN : Hid (∀ p : Kp wr, Calls Try.prog 38 #[.int .u64 (an : Int)] p.W fun e w'' => e = .returned (.string s1) ∧ ∃ q : Kp wr, w'' = q.W) := hide fun p => kp_call (by rw [← hs1.2.2]; exact refnum_any p.W _ hs1.1 hs1.2.1)
      have hadd : ∀ W, (Op.stringOp .add s0 s1).run Try.prog W = .ok (.string (s0 ++ s1)) W := fun W => run_string_add_sum W _ _ (by omega)
      have hne : Nonempty (Kp wr) := ⟨⟨_, Below.refl _ _⟩⟩
      have HS0 := hide hs0
      have HS1 := hide hs1
      clear hown hown2 hus hbel hs0 hs1
      go_wp2_with fail
      refine wp_region_kept (by kernel_rfl) (by kernel_rfl) ?_
      repeat (first
        | go_big_quiet_step (first | (go_at_call 37; exact cL.out _) | (go_at_call 38; exact cN.out _))
        | fail)
      refine wpQuiet_nil ?_
      intro w3 hw'
      have hb3 : Below wr.heap.size wr w3 := by
        obtain ⟨⟨w3', hb3⟩, hw''⟩ := hw'
        rw [hw'']; exact hb3
      have HB3 := hide (HB1.out.trans (hb3.mono (HBW.out wr HB1.out).2))
      obtain ⟨pre, hpre⟩ : ∃ pre, li d ++ pu (an : Int) = pre := ⟨_, rfl⟩
      have HPS : Hid (s0 ++ s1 = strOfNums pre) := hide (by rw [← HS0.out, ← HS1.out.2.2, str_app, hpre])
      have hlp := (pu_len (an : Int)).2
      have hpl : pre.length ≤ 420 := by rw [← hpre, List.length_append]; omega
      have HPR := hide (show ByteL pre from by rw [← hpre]; exact bytel_app HRD.out (pu_range (an : Int) (by omega) (by omega)))
      have HRR : Hid (R = pre ++ (fbs a ++ rest [lg, fl, ct, at9, ls] 0)) := hide (by rw [HE.out, ← hpre, List.append_assoc])
      generalize s0 ++ s1 = sp at *
      clear hw' hne p1 cL cN hadd hb3 hpre HS0 HS1 hlp HE hlld HB1 HUS
      go_wp2_with fail
      go_loopw [5, 6] (fun u s wr => ∃ (j : Nat) (sk : ByteArray), j ≤ an ∧ s = .int .i64 j ∧ u = .string sk ∧ sk.size ≤ 420 + 20 * j ∧ Hid (sk = strOfNums (pre ++ fbs (a.take j))) ∧ Hid (Below (w.heap.size + 1) wa wr)) (fun _ s _ => an - (intOf s).toNat)
      case atStart => exact ⟨0, sp, by omega, rfl, rfl, by rw [HPS.out, str_size]; omega, hide (by rw [HPS.out]; simp [fbs]), HB3⟩
      case round =>
        obtain ⟨j, sk, hj, rfl, rfl, hskl, hsk, hbel⟩ := hrel
        have k1 : wr.cell? ⟨w.heap.size, 1, none⟩ = some (.slice aa an ac) := (hK.out wr hbel.out).cell rfl
        by_cases hlt2 : j < an
        · obtain ⟨f, b, off, hf, rfl, c0, c1, hfw⟩ := fs_at (HA.out _ (HBW.out _ hbel.out).1) j hlt2
          have hfr := HP4.out f (List.mem_of_getElem? hf)
          have HFT := hide (fbs_take hf)
          obtain ⟨fL, fN⟩ := f
          simp only at c0 c1 hfr HFT
          have hwL : IntKind.u64.wrap fL = fL := by
            simp [IntKind.wrap, IntKind.bits, IntKind.signed]
            omega
          have hwN : IntKind.u64.wrap fN = fN := by
            simp [IntKind.wrap, IntKind.bits, IntKind.signed]
            omega
          obtain ⟨t1, ht1, ht1l⟩ := nums_of fL (by omega) (by omega)
          obtain ⟨t2, ht2, ht2l⟩ := nums_of fN (by omega) (by omega)
          have HT1 := hide ht1.2.2
          have HT2 := hide ht2.2.2
          have p1 : ∀ p : Kp wr, p.W.cell? ⟨w.heap.size, 1, none⟩ = some (.slice (some ⟨b, off, none⟩) an ac) := fun p => (p.h.cell (p := ⟨w.heap.size, 1, none⟩) (World.block_lt_of_cell? wr _ k1)).trans k1
          have p2 : ∀ p : Kp wr, p.W.cell? ⟨b, off + j * 2, none⟩ = some (.int .i64 fL) := fun p => (p.h.cell (p := ⟨b, off + j * 2, none⟩) (World.block_lt_of_cell? wr _ c0)).trans c0
          have p3 : ∀ p : Kp wr, p.W.cell? ⟨b, off + j * 2 + 1, none⟩ = some (.int .i64 fN) := fun p => (p.h.cell (p := ⟨b, off + j * 2 + 1, none⟩) (World.block_lt_of_cell? wr _ c1)).trans c1
          have cK : Hid (∀ (p : Kp wr) (n : Int) (s : ByteArray), NumS n s → Calls Try.prog 38 #[.int .u64 n] p.W fun e w'' => e = .returned (.string s) ∧ ∃ q : Kp wr, w'' = q.W) := hide fun p n s h => kp_call (by rw [← h.2.2]; exact refnum_any p.W _ h.1 h.2.1)
          have hadd1 : ∀ W, (Op.stringOp .add sk t1).run Try.prog W = .ok (.string (sk ++ t1)) W := fun W => run_string_add_sum W _ _ (by omega)
          have hadd2 : ∀ W, (Op.stringOp .add (sk ++ t1) t2).run Try.prog W = .ok (.string (sk ++ t1 ++ t2)) W := fun W => run_string_add_sum W _ _ (by rw [ByteArray.size_append]; omega)
          have hne : Nonempty (Kp wr) := ⟨⟨_, Below.refl _ _⟩⟩
          clear hf hfw c0 c1
          go_wp2_with fail
          clear k1
          refine wp_region_kept (by kernel_rfl) (by kernel_rfl) ?_
          repeat (first
            | go_big_quiet_step (first | (go_at_call 38; exact cK.out _ _ _ (by assumption)))
            | fail)
          refine wpQuiet_nil ?_
          intro w4 hw'
          have hb4 : Below wr.heap.size wr w4 := by
            obtain ⟨⟨w3', hb3⟩, hw''⟩ := hw'
            rw [hw'']; exact hb3
          have HB4 := hide (hbel.out.trans (hb4.mono (HBW.out wr hbel.out).2))
          have HSK : Hid (sk ++ t1 ++ t2 = strOfNums (pre ++ fbs (a.take (j + 1)))) := hide (by rw [hsk.out, ← HT1.out, ← HT2.out, str_app, str_app, HFT.out, List.append_assoc, List.append_assoc])
          have HSL := hide (show (sk ++ t1 ++ t2).size ≤ 420 + 20 * (j + 1) from by rw [ByteArray.size_append, ByteArray.size_append]; omega)
          clear hw' hne p1 p2 p3 cK hadd1 hadd2 hb4 ht1 ht2
          go_wp2_with fail
          go_roundw
          case rel => exact ⟨j + 1, _, by omega, by go_num, rfl, HSL.out, HSK, HB4⟩
          case measure => simp [intOf]; omega
        · obtain rfl : j = an := by omega
          have hsk2 := hsk.out
          rw [List.take_of_length_le (by omega)] at hsk2
          have HSK := hide hsk2
          have HB6 := hide hbel.out
          obtain ⟨t1, ht1, ht1l⟩ := nums_of lg (by omega) (by omega)
          obtain ⟨t2, ht2, ht2l⟩ := nums_of fl (by omega) (by omega)
          obtain ⟨t3, ht3, ht3l⟩ := nums_of ct (by omega) (by omega)
          obtain ⟨t4, ht4, ht4l⟩ := nums_of at9 (by omega) (by omega)
          obtain ⟨t5, ht5, ht5l⟩ := nums_of ls (by omega) (by omega)
          have kk := hide (hK.out _ hbel.out)
          have p2 : ∀ p : Kp wr, p.W.cell? ⟨w.heap.size, 2, none⟩ = some (.int .i64 lg) := fun p => (kk.out.below p.h kk.out.lt).cell rfl
          have p3 : ∀ p : Kp wr, p.W.cell? ⟨w.heap.size, 3, none⟩ = some (.int .u64 fl) := fun p => (kk.out.below p.h kk.out.lt).cell rfl
          have p4 : ∀ p : Kp wr, p.W.cell? ⟨w.heap.size, 4, none⟩ = some (.int .u64 ct) := fun p => (kk.out.below p.h kk.out.lt).cell rfl
          have p5 : ∀ p : Kp wr, p.W.cell? ⟨w.heap.size, 5, none⟩ = some (.int .u64 at9) := fun p => (kk.out.below p.h kk.out.lt).cell rfl
          have p6 : ∀ p : Kp wr, p.W.cell? ⟨w.heap.size, 6, none⟩ = some (.int .u64 ls) := fun p => (kk.out.below p.h kk.out.lt).cell rfl
          have cK : Hid (∀ (p : Kp wr) (n : Int) (s : ByteArray), NumS n s → Calls Try.prog 38 #[.int .u64 n] p.W fun e w'' => e = .returned (.string s) ∧ ∃ q : Kp wr, w'' = q.W) := hide fun p n s h => kp_call (by rw [← h.2.2]; exact refnum_any p.W _ h.1 h.2.1)
          have hadd1 : ∀ W, (Op.stringOp .add sk t1).run Try.prog W = .ok (.string (sk ++ t1)) W := fun W => run_string_add_sum W _ _ (by omega)
          have hadd2 : ∀ W, (Op.stringOp .add (sk ++ t1) t2).run Try.prog W = .ok (.string (sk ++ t1 ++ t2)) W := fun W => run_string_add_sum W _ _ (by simp only [ByteArray.size_append]; omega)
          have hadd3 : ∀ W, (Op.stringOp .add (sk ++ t1 ++ t2) t3).run Try.prog W = .ok (.string (sk ++ t1 ++ t2 ++ t3)) W := fun W => run_string_add_sum W _ _ (by simp only [ByteArray.size_append]; omega)
          have hadd4 : ∀ W, (Op.stringOp .add (sk ++ t1 ++ t2 ++ t3) t4).run Try.prog W = .ok (.string (sk ++ t1 ++ t2 ++ t3 ++ t4)) W := fun W => run_string_add_sum W _ _ (by simp only [ByteArray.size_append]; omega)
          have hadd5 : ∀ W, (Op.stringOp .add (sk ++ t1 ++ t2 ++ t3 ++ t4) t5).run Try.prog W = .ok (.string (sk ++ t1 ++ t2 ++ t3 ++ t4 ++ t5)) W := fun W => run_string_add_sum W _ _ (by simp only [ByteArray.size_append]; omega)
          have hne : Nonempty (Kp wr) := ⟨⟨_, Below.refl _ _⟩⟩
          have HX : Hid (sk ++ t1 ++ t2 ++ t3 ++ t4 ++ t5 = strOfNums R) := hide (by rw [hsk2, ← ht1.2.2, ← ht2.2.2, ← ht3.2.2, ← ht4.2.2, ← ht5.2.2]; simp only [str_app]; rw [HRR.out]; simp [rest])
          have HRB := hide (show ByteL R from by
            rw [HRR.out]
            refine bytel_app ?_ (bytel_app (fbs_range a HP4.out) ?_)
            · exact HPR.out
            · have := rows_range [lg, fl, ct, at9, ls] (urange_of fun z hz => by simp at hz; omega) 5
              rw [rows_all _ 5 (by simp)] at this
              exact this)
          clear hsk hsk2 hbel
          go_wp2_with fail
          clear k1
          refine wp_region_kept (by kernel_rfl) (by kernel_rfl) ?_
          repeat (first
            | go_big_quiet_step (first | (go_at_call 38; exact cK.out _ _ _ (by assumption)))
            | fail)
          refine wpQuiet_nil ?_
          intro w4 hw'
          have hb4 : Below wr.heap.size wr w4 := by
            obtain ⟨⟨w3', hb3⟩, hw''⟩ := hw'
            rw [hw'']; exact hb3
          have B4 := hide ((HBW.out wr HB6.out).1.trans (hb4.mono (HBW.out wr HB6.out).1.size))
          clear hw' hne p2 p3 p4 p5 p6 cK hadd1 hadd2 hadd3 hadd4 hadd5 hb4 ht1 ht2 ht3 ht4 ht5 kk
          generalize sk ++ t1 ++ t2 ++ t3 ++ t4 ++ t5 = sx at *
          have CF := hide (refframe_any 6 sx R w4 (by omega) (by omega) HX.out (by omega) HRB.out)
          go_wp2_with fail
          refine CF.out.mono ?_
          rintro e w5 ⟨rfl, hb5⟩
          have B5 := hide (B4.out.trans (hb5.mono B4.out.size))
          clear CF hb5
          go_wp2
          go_ret
          exact ⟨rfl, B5.out⟩

end Go.Proofs.Ytgopcaemgcnapaa.Clep

/- Numbers that are masked, and places within a row. No conditions but the kinds' own bounds. -/
namespace Go.Proofs.Ytgopcaemgcnapaa.Clep
open Go.RowKit
set_option linter.unusedVariables false
set_option maxRecDepth 10000

theorem and_mask (a : Int) (m : Nat) (hm : m < 9223372036854775808) : 0 ≤ bits .and .i64 a (m : Int) ∧ bits .and .i64 a (m : Int) ≤ m := by
  have e : bits .and .i64 a (m : Int) = IntKind.i64.wrap ((BitVec.ofInt 64 a &&& BitVec.ofInt 64 (m : Int)).toNat : Int) := rfl
  have hle : (BitVec.ofInt 64 a &&& BitVec.ofInt 64 (m : Int)).toNat ≤ m := by
    rw [BitVec.toNat_and]
    refine Nat.le_trans Nat.and_le_right ?_
    rw [BitVec.toNat_ofInt]
    omega
  rw [e]
  generalize (BitVec.ofInt 64 a &&& BitVec.ofInt 64 (m : Int)).toNat = k at *
  simp [IntKind.wrap, IntKind.bits, IntKind.signed]
  omega
/-- A place within a row: what is masked, and what is left of it. -/
theorem place_of (a : Int) (m : Nat) (hm : m < 9223372036854775808) (d : Int) (D : Nat) (hd : d = (D : Int)) (h0 : 0 < D) : ∃ P : Nat, (bits .and .i64 a (m : Int)).tmod d = (P : Int) ∧ P < D := by
  obtain ⟨h1, h2⟩ := and_mask a m hm
  obtain ⟨x, hx⟩ := Int.eq_ofNat_of_zero_le h1
  rw [hx, hd]
  exact ⟨x % D, by rw [Int.ofNat_tmod], Nat.mod_lt _ h0⟩

end Go.Proofs.Ytgopcaemgcnapaa.Clep

/- The statement EditApplies, walked: for any row of Edits and any three numbers. No conditions. Written by wip/tools/gen15applies.py. -/
namespace Go.Proofs.Ytgopcaemgcnapaa.Clep
open Go.RowKit
set_option linter.unusedVariables false
set_option maxRecDepth 10000

section
attribute [local go_sem ↓] cut_h
set_option maxHeartbeats 8000000 in
theorem applies_walk (ao : Option Addr) (len cap : Nat) (ls : List Er) (t1 t2 t3 : Int) (w : World) (h : Es w ao len cap ls) (hlen : len ≤ 9223372036854775807) :
    Calls Try.prog 7 #[.slice ao len cap, .int .i64 t1, .int .u8 t2, .int .i64 t3] w fun e w' => e = .returned (.bool true) ∧ Below w.heap.size w w' := by
  have HE := hide (fun W (hW : Below w.heap.size w W) => h.below hW (Nat.le_refl _))
  have HA := hide awake_any
  clear h
  have S0 := hide (sa_start w)
  go_enter Try.func7, Try.ntmps7
  go_wp2_with fail
  generalize (w.alloc (Obj.cells #[.int .i64 0, .slice none 0 0, .int .u64 0, .int .u64 0, .int .u64 0, .int .u64 0] 26)).alloc (Obj.cells #[.int .i64 0, .slice none 0 0, .int .u64 0, .int .u64 0, .int .u64 0, .int .u64 0] 26) = wa at *
  go_loopw [11, 12] (fun s t wr => ∃ (i : Nat) (S : ByteArray), i ≤ len ∧ i ≤ 20 ∧ t = .int .i64 i ∧ s = .string S ∧ Hid (SaL w wr S i)) (fun _ t _ => 20 - (intOf t).toNat)
  case atStart => exact ⟨0, _, by omega, by omega, rfl, rfl, hide ⟨[], zV, none, 0, none, 0, S0.out, rfl, by simp, by simp, rfl⟩⟩
  case round =>
    obtain ⟨i, S, hi, hi20, rfl, rfl, hst⟩ := hrel
    clear S0
    obtain ⟨wr', hwr⟩ : ∃ x, x = wr := ⟨_, rfl⟩
    subst hwr
    go_upto_region 4 with fail
    go_cut [34] from 27 to 99 (fun s34 wx => s34 = .bool (decide (i < len ∧ i < 20)) ∧ wr' = wx)
    case first =>
      clear hst HE HA
      by_cases hlt : i < len
      · have q1 : (i : Int) < (len : Int) := by omega
        by_cases hl2 : i < 20
        · have q2 : (i : Int) < 20 := by omega
          go_wp2_with fail
          go_meet
          case rel => exact ⟨by simp [hlt, hl2], rfl⟩
        · have q2 : ¬ (i : Int) < 20 := by omega
          go_wp2_with fail
          go_meet
          case rel => exact ⟨by simp [hl2], rfl⟩
      · have q1 : ¬ ((i : Int) < (len : Int)) := by omega
        go_wp2_with fail
        go_meet
        case rel => exact ⟨by simp [hlt], rfl⟩
    case rest =>
      obtain ⟨rfl, hwc⟩ := hcut
      obtain ⟨wr, hwr⟩ : ∃ x, x = wr' := ⟨_, rfl⟩
      subst hwr
      subst hwc
      obtain ⟨q, hq⟩ : ∃ q, decide (i < len ∧ i < 20) = q := ⟨_, rfl⟩
      rw [hq]
      obtain ⟨l, V, av, cv, aw, cw, hsa, hap, heg, hll, hS⟩ := hst.out
      have SA := hide hsa
      have HAP := hide hap
      have HEG := hide heg
      have HLL := hide hll
      have HS := hide hS
      have hon := apE_once hap
      clear hst hap heg hll hS
      cases q with
      | true =>
        obtain ⟨hl1, hl2⟩ := of_decide_eq_true hq
        obtain ⟨y, b, off, hy, rfl, hyo, c0, c1, c2, c3, c4, c5, c6⟩ := es_at (HE.out wr hsa.bel) i hl1
        have HYO := hide hyo
        have hdn := hyo.1.2
        have han := hyo.2.1.2
        have q1 : (i : Int) < (len : Int) := by omega
        obtain ⟨NV, hNV⟩ : ∃ n, V.f.length = n := ⟨_, rfl⟩
        have HNV := hide hNV
        have CF := hide (fun W => few_any y.da y.aa y.dn y.dc y.an y.ac y.E W hdn han)
        unfold edV at CF
        obtain ⟨of, hof⟩ : ∃ o, decide (y.dn ≤ 60 ∧ y.an ≤ 60) = o := ⟨_, rfl⟩
        rw [hof] at CF
        have HYL := hide (show of = true → y.dn ≤ 60 ∧ y.an ≤ 60 from fun e => of_decide_eq_true (hof.trans e))
        have HYC := hide (fun W (hW : Below wr.heap.size wr W) => And.intro ((hW.cell (p := ⟨b, off + i * 7, none⟩) (World.block_lt_of_cell? wr _ c0)).trans c0) ( And.intro ((hW.cell (p := ⟨b, off + i * 7 + 1, none⟩) (World.block_lt_of_cell? wr _ c1)).trans c1) ( And.intro ((hW.cell (p := ⟨b, off + i * 7 + 2, none⟩) (World.block_lt_of_cell? wr _ c2)).trans c2) ( And.intro ((hW.cell (p := ⟨b, off + i * 7 + 3, none⟩) (World.block_lt_of_cell? wr _ c3)).trans c3) ( And.intro ((hW.cell (p := ⟨b, off + i * 7 + 4, none⟩) (World.block_lt_of_cell? wr _ c4)).trans c4) ( And.intro ((hW.cell (p := ⟨b, off + i * 7 + 5, none⟩) (World.block_lt_of_cell? wr _ c5)).trans c5) ( ((hW.cell (p := ⟨b, off + i * 7 + 6, none⟩) (World.block_lt_of_cell? wr _ c6)).trans c6))))))))
        have hvl := hsa.v.lt
        have hbl : b < wr.heap.size := World.block_lt_of_cell? wr _ c0
        have HY := hide hy
        clear hyo hy hof hdn han hsa hNV hq
        go_wp2_with fail
        refine (CF.out _).mono ?_
        rintro e w1 ⟨rfl, hb1⟩
        have HB1 := hide hb1
        have hs01 := hb1.size
        clear hb1 CF c0 c1 c2 c3 c4 c5 c6
        cases of with
        | false =>
          clear HYL HYC
          go_wp2_with (go_at_call 13; refine (HA.out _).mono ?_; rintro e w6 ⟨rfl, hb6⟩)
          go_ret
          exact ⟨rfl, (SA.out.bel.trans (HB1.out.mono SA.out.bel.size)).trans (hb6.mono (Nat.le_trans SA.out.bel.size HB1.out.size))⟩
        | true =>
          have hyl := HYL.out (by first | rfl | trivial)
          obtain ⟨X, hX⟩ : ∃ X, apv (appl V y.E) = X := ⟨_, rfl⟩
          obtain ⟨o, ho⟩ : ∃ o, (appl V y.E).isSome = o := ⟨_, rfl⟩
          obtain ⟨N, hN⟩ : ∃ n, X.f.length = n := ⟨_, rfl⟩
          have HX := hide hX
          have HO := hide ho
          have HN := hide hN
          have HX1 := hide (show o = true → appl V y.E = some X from fun e => by
            rw [← ho] at e
            rw [← hX]
            cases hr : appl V y.E with
            | none => rw [hr] at e; cases e
            | some U => rfl)
          have HWX := hide (show ∀ x ∈ X.f, x.wf from fun x hx => by
            cases hr : appl V y.E with
            | none => rw [hr] at hX; rw [← hX] at hx; cases hx
            | some U =>
              rw [hr] at hX
              have : U = X := hX
              subst this
              exact vok_wf (appl_ok hr) x hx)
          clear hX ho hN HYL
          go_upto_region 8 with fail
          go_cut [13, 14] from 27 to 99 (fun s13 s14 wx => s14 = .bool o ∧ Hid (Vb wx w1.heap.size X N s13 ∧ Below w1.heap.size w1 wx))
          case first =>
            have HVW := hide (show ∀ W, Below w1.heap.size w1 W → Ek W w.heap.size #[.int .i64 V.lg, .slice av NV cv, .int .u64 V.fl, .int .u64 V.ct, .int .u64 V.at9, .int .u64 V.ls] 26 from fun W hW => by have := (SA.out.v.below HB1.out SA.out.v.lt).below hW (Nat.lt_of_lt_of_le SA.out.v.lt HB1.out.size); rw [HNV.out] at this; exact this)
            have HYC := hide (fun W (hW : Below w1.heap.size w1 W) => HYC.out W (HB1.out.trans (hW.mono HB1.out.size)))
            have CA := hide (show ∀ W, Below w1.heap.size w1 W → Calls Try.prog 9 #[.agg #[.int .i64 V.lg, .slice av NV cv, .int .u64 V.fl, .int .u64 V.ct, .int .u64 V.at9, .int .u64 V.ls], .agg #[.slice y.da y.dn y.dc, .slice y.aa y.an y.ac, .int .i64 y.E.lg, .int .u64 y.E.fl, .int .u64 y.E.ct, .int .u64 y.E.at9, .int .u64 y.E.ls]] W fun e w' => ∃ a c, e = .returned (.tuple #[.agg #[.int .i64 X.lg, .slice a N c, .int .u64 X.fl, .int .u64 X.ct, .int .u64 X.at9, .int .u64 X.ls], .bool o]) ∧ c ≤ 9223372036854775807 ∧ OwnF w' W.heap.size (.slice a N c) X.f ∧ Below W.heap.size W w' from fun W hW => by
              have hW2 : Below wr.heap.size wr W := HB1.out.trans (hW.mono HB1.out.size)
              have hyo := HYO.out.below hW2 (Nat.le_refl _)
              have hfv := (ownF_fsN (ownF_keep SA.out.fv hW2) SA.out.wf rfl).2
              rw [HNV.out] at hfv
              refine (apply_any av y.da y.aa NV cv y.dn y.dc y.an y.ac V y.E W hfv hyo.1.1 hyo.2.1.1 (by have := hon.2; have := HNV.out; omega) (by omega) (by omega) hon.1).mono fun e w' h => ?_
              obtain ⟨a, c, h1, h2, h3, h4, h5⟩ := apr_any h
              rw [HX.out, HO.out, HN.out] at h1
              rw [HX.out, HN.out] at h3
              exact ⟨a, c, h1, h2, h3, h5⟩)
            clear HAP HEG HLL HS HX HO HN HX1 HWX HA HE
            refine region_si (PTh w1.heap.size (.agg #[.int .i64 V.lg, .slice av NV cv, .int .u64 V.fl, .int .u64 V.ct, .int .u64 V.at9, .int .u64 V.ls]) (some ⟨b, off, none⟩) len cap i b off (.agg #[.slice y.da y.dn y.dc, .slice y.aa y.an y.ac, .int .i64 y.E.lg, .int .u64 y.E.fl, .int .u64 y.E.ct, .int .u64 y.E.at9, .int .u64 y.E.ls]) N X o) (PG w1) (by kernel_rfl) (by kernel_rfl) (by kernel_rfl) ?start ?step ?fin
            case start => exact ⟨(Below.refl _ w1).drew, fun e => (by cases e)⟩
            case step =>
              intro L A W i_ hI hi hLi hw
              have hi2 : i_ < 12 := hi
              rcases (show i_ = 0 ∨ i_ = 1 ∨ i_ = 2 ∨ i_ = 3 ∨ i_ = 4 ∨ i_ = 5 ∨ i_ = 6 ∨ i_ = 7 ∨ i_ = 8 ∨ i_ = 9 ∨ i_ = 10 ∨ i_ = 11 by omega) with rfl | rfl | rfl | rfl | rfl | rfl | rfl | rfl | rfl | rfl | rfl | rfl
              · have e0 := hI.kept 9 _ (by decide +kernel) rfl
                have c0 : W.cell? ⟨w.heap.size, 0, none⟩ = some (.int .i64 V.lg) := (HVW.out W hI.g.1).cell rfl
                have c1 : W.cell? ⟨w.heap.size, 1, none⟩ = some (.slice av NV cv) := (HVW.out W hI.g.1).cell rfl
                have c2 : W.cell? ⟨w.heap.size, 2, none⟩ = some (.int .u64 V.fl) := (HVW.out W hI.g.1).cell rfl
                have c3 : W.cell? ⟨w.heap.size, 3, none⟩ = some (.int .u64 V.ct) := (HVW.out W hI.g.1).cell rfl
                have c4 : W.cell? ⟨w.heap.size, 4, none⟩ = some (.int .u64 V.at9) := (HVW.out W hI.g.1).cell rfl
                have c5 : W.cell? ⟨w.heap.size, 5, none⟩ = some (.int .u64 V.ls) := (HVW.out W hI.g.1).cell rfl
                refine hI.pure (by kernel_rfl) (by decide +kernel) (i := 0) (d := 45) rfl rfl rfl (v := .agg #[.int .i64 V.lg, .slice av NV cv, .int .u64 V.fl, .int .u64 V.ct, .int .u64 V.at9, .int .u64 V.ls]) (rfl) (fun j u _ _ h => pth_keep (upd10 (by decide)) (Below.refl _ _) j u h) (pg_upd 0 (by decide) hI.g) ?_
                intro K hKK
                go_simp
                exact hKK
              · have e0 := hI.kept 0 _ (by decide +kernel) rfl
                refine hI.pure (by kernel_rfl) (by decide +kernel) (i := 1) (d := 46) rfl rfl rfl (v := .slice (some ⟨b, off, none⟩) len cap) (rfl) (fun j u _ _ h => pth_keep (upd10 (by decide)) (Below.refl _ _) j u h) (pg_upd 1 (by decide) hI.g) ?_
                intro K hKK
                go_simp
                exact hKK
              · have e0 := hI.kept 12 _ (by decide +kernel) rfl
                refine hI.pure (by kernel_rfl) (by decide +kernel) (i := 2) (d := 47) rfl rfl rfl (v := .int .i64 (i : Int)) (rfl) (fun j u _ _ h => pth_keep (upd10 (by decide)) (Below.refl _ _) j u h) (pg_upd 2 (by decide) hI.g) ?_
                intro K hKK
                go_simp
                exact hKK
              · obtain ⟨_, e0, rfl⟩ := hI.val 1 46 (by decide +kernel) (hw 1 (by kernel_rfl)) (by kernel_rfl)
                obtain ⟨_, e1, rfl⟩ := hI.val 2 47 (by decide +kernel) (hw 2 (by kernel_rfl)) (by kernel_rfl)
                refine hI.pure (by kernel_rfl) (by decide +kernel) (i := 3) (d := 48) rfl rfl rfl (v := .pointer (some ⟨b, off + i * 7, none⟩)) (rfl) (fun j u _ _ h => pth_keep (upd10 (by decide)) (Below.refl _ _) j u h) (pg_upd 3 (by decide) hI.g) ?_
                intro K hKK
                go_simp
                exact hKK
              · obtain ⟨_, e0, rfl⟩ := hI.val 3 48 (by decide +kernel) (hw 3 (by kernel_rfl)) (by kernel_rfl)
                obtain ⟨c0, c1, c2, c3, c4, c5, c6⟩ := HYC.out W hI.g.1
                refine hI.pure (by kernel_rfl) (by decide +kernel) (i := 4) (d := 49) rfl rfl rfl (v := .agg #[.slice y.da y.dn y.dc, .slice y.aa y.an y.ac, .int .i64 y.E.lg, .int .u64 y.E.fl, .int .u64 y.E.ct, .int .u64 y.E.at9, .int .u64 y.E.ls]) (rfl) (fun j u _ _ h => pth_keep (upd10 (by decide)) (Below.refl _ _) j u h) (pg_upd 4 (by decide) hI.g) ?_
                intro K hKK
                go_simp
                exact hKK
              · obtain ⟨_, e0, rfl⟩ := hI.val 0 45 (by decide +kernel) (hw 0 (by kernel_rfl)) (by kernel_rfl)
                obtain ⟨_, e1, rfl⟩ := hI.val 4 49 (by decide +kernel) (hw 4 (by kernel_rfl)) (by kernel_rfl)
                have h10 := pg10 hI.g (i := 5) (by decide) (by decide) hLi
                refine hI.more (by kernel_rfl) (by decide +kernel) (i := 5) (d := 50) rfl rfl rfl ?_
                intro K hKK
                go_simp
                refine (CA.out W hI.g.1).mono ?_
                rintro e W' ⟨a', c', rfl, hc', ho', hb'⟩
                exact hKK _ _ ⟨a', c', rfl, hc', fun _ => ownF_base ho' hI.g.1.size⟩ (fun j u _ _ h => pth_keep (upd10 (by decide)) hb' j u h) (pg_upd 5 (by decide) (pg_below hI.g hb'))
              · obtain ⟨_, e0, a', c', rfl, hc', ho'⟩ := hI.val 5 50 (by decide +kernel) (hw 5 (by kernel_rfl)) (by kernel_rfl)
                refine hI.pure (by kernel_rfl) (by decide +kernel) (i := 6) (d := 44) rfl rfl rfl (v := .tuple #[.agg #[.int .i64 X.lg, .slice a' N c', .int .u64 X.fl, .int .u64 X.ct, .int .u64 X.at9, .int .u64 X.ls], .bool o]) (⟨a', c', rfl, hc', fun e => ho' ((upd10 (L := L) (i := 6) (by decide)).symm.trans e)⟩) (fun j u _ _ h => pth_keep (upd10 (by decide)) (Below.refl _ _) j u h) (pg_upd 6 (by decide) hI.g) ?_
                intro K hKK
                go_simp
                exact hKK
              · obtain ⟨_, e0, a', c', rfl, hc', ho'⟩ := hI.val 6 44 (by decide +kernel) (hw 6 (by kernel_rfl)) (by kernel_rfl)
                refine hI.pure (by kernel_rfl) (by decide +kernel) (i := 7) (d := 51) rfl rfl rfl (v := .agg #[.int .i64 X.lg, .slice a' N c', .int .u64 X.fl, .int .u64 X.ct, .int .u64 X.at9, .int .u64 X.ls]) (⟨a', c', rfl, hc', fun e => ho' ((upd10 (L := L) (i := 7) (by decide)).symm.trans e)⟩) (fun j u _ _ h => pth_keep (upd10 (by decide)) (Below.refl _ _) j u h) (pg_upd 7 (by decide) hI.g) ?_
                intro K hKK
                go_simp
                exact hKK
              · obtain ⟨_, e0, a', c', rfl, hc', ho'⟩ := hI.val 6 44 (by decide +kernel) (hw 6 (by kernel_rfl)) (by kernel_rfl)
                refine hI.pure (by kernel_rfl) (by decide +kernel) (i := 8) (d := 52) rfl rfl rfl (v := .bool o) (rfl) (fun j u _ _ h => pth_keep (upd10 (by decide)) (Below.refl _ _) j u h) (pg_upd 8 (by decide) hI.g) ?_
                intro K hKK
                go_simp
                exact hKK
              · have h10 := pg10 hI.g (i := 9) (by decide) (by decide) hLi
                refine hI.more (by kernel_rfl) (by decide +kernel) (i := 9) (d := 13) rfl rfl rfl ?_
                intro K hKK
                have A := (Below.refl _ W).alloc (Nat.le_refl _) (Obj.cells #[.int .i64 0, .slice none 0 0, .int .u64 0, .int .u64 0, .int .u64 0, .int .u64 0] 26)
                go_simp
                exact hKK _ _ ⟨W.heap.size, rfl, hI.g.1.size, fun _ => ek_new W _ _, fun e => (by rw [upd10 (by decide), h10] at e; cases e)⟩ (fun j u _ _ h => pth_keep (upd10 (by decide)) A j u h) (pg_upd 9 (by decide) (pg_below hI.g A))
              · obtain ⟨_, e0, a', c', rfl, hc', ho'⟩ := hI.val 7 51 (by decide +kernel) (hw 7 (by kernel_rfl)) (by kernel_rfl)
                obtain ⟨_, e1, p, rfl, hHp, hz, _⟩ := hI.val 9 13 (by decide +kernel) (hw 9 (by kernel_rfl)) (by kernel_rfl)
                have ho' := ho' hLi
                have hz := hz hLi
                refine hI.store (by decide +kernel) (i := 10) rfl rfl rfl ?_
                intro K hKK
                have z0 : W.cell? ⟨p, 0, none⟩ = some (.int .i64 0) := hz.cell rfl
                have y0 := hz.free 0
                have z1 : W.cell? ⟨p, 1, none⟩ = some (.slice none 0 0) := hz.cell rfl
                have y1 := hz.free 1
                have z2 : W.cell? ⟨p, 2, none⟩ = some (.int .u64 0) := hz.cell rfl
                have y2 := hz.free 2
                have z3 : W.cell? ⟨p, 3, none⟩ = some (.int .u64 0) := hz.cell rfl
                have y3 := hz.free 3
                have z4 : W.cell? ⟨p, 4, none⟩ = some (.int .u64 0) := hz.cell rfl
                have y4 := hz.free 4
                have z5 : W.cell? ⟨p, 5, none⟩ = some (.int .u64 0) := hz.cell rfl
                have y5 := hz.free 5
                have HZ := hide hz
                have HOW := hide ho'
                clear hz ho'
                go_simp
                have hg := egrow (k := 5) (u := .int .u64 X.ls) (egrow (k := 4) (u := .int .u64 X.at9) (egrow (k := 3) (u := .int .u64 X.ct) (egrow (k := 2) (u := .int .u64 X.fl) (egrow (k := 1) (u := .slice a' N c') (fgb_set W ⟨p, 0, none⟩ (.int .i64 X.lg))))))
                have hzz := (((((HZ.out.set 0 (.int .i64 X.lg)).set 1 (.slice a' N c')).set 2 (.int .u64 X.fl)).set 3 (.int .u64 X.ct)).set 4 (.int .u64 X.at9)).set 5 (.int .u64 X.ls)
                have how2 := ownF_far HOW.out hg (own_not_view HOW.out HZ.out)
                refine hKK _ (fun j e u _ _ hde hu h => pth_store (upd_same _ _) j u (fun hj => ?_) h) ⟨hI.g.1.grown hg hI.g.1.size (fun k hk => by cases hk; exact hHp), fun _ j hj h8 => upd_more (hw j (waits_but (k := 8) (by kernel_rfl) j hj h8))⟩
                subst hj
                have he : some e = some 13 := hde.symm.trans (by kernel_rfl)
                cases he
                rw [e1] at hu
                cases hu
                exact ⟨p, rfl, hHp, fun e => (by rw [upd_same] at e; cases e), fun _ => ⟨a', c', hzz, hc', how2⟩⟩
              · obtain ⟨_, e0, rfl⟩ := hI.val 8 52 (by decide +kernel) (hw 8 (by kernel_rfl)) (by kernel_rfl)
                refine hI.pure (by kernel_rfl) (by decide +kernel) (i := 11) (d := 14) rfl rfl rfl (v := .bool o) (rfl) (fun j u _ _ h => pth_keep (upd10 (by decide)) (Below.refl _ _) j u h) (pg_upd 11 (by decide) hI.g) ?_
                intro K hKK
                go_simp
                exact hKK
            case fin =>
              intro L A W hI hall
              obtain ⟨_, s0, rfl⟩ := hI.val 0 45 (by decide +kernel) (hall 0 (by decide +kernel)) (by kernel_rfl)
              obtain ⟨_, s1, rfl⟩ := hI.val 1 46 (by decide +kernel) (hall 1 (by decide +kernel)) (by kernel_rfl)
              obtain ⟨_, s2, rfl⟩ := hI.val 2 47 (by decide +kernel) (hall 2 (by decide +kernel)) (by kernel_rfl)
              obtain ⟨_, s3, rfl⟩ := hI.val 3 48 (by decide +kernel) (hall 3 (by decide +kernel)) (by kernel_rfl)
              obtain ⟨_, s4, rfl⟩ := hI.val 4 49 (by decide +kernel) (hall 4 (by decide +kernel)) (by kernel_rfl)
              obtain ⟨_, s5, aq, cq, rfl, _, _⟩ := hI.val 5 50 (by decide +kernel) (hall 5 (by decide +kernel)) (by kernel_rfl)
              obtain ⟨_, s6, ar, cr, rfl, _, _⟩ := hI.val 6 44 (by decide +kernel) (hall 6 (by decide +kernel)) (by kernel_rfl)
              obtain ⟨_, s7, ay, cy, rfl, _, _⟩ := hI.val 7 51 (by decide +kernel) (hall 7 (by decide +kernel)) (by kernel_rfl)
              obtain ⟨_, s8, rfl⟩ := hI.val 8 52 (by decide +kernel) (hall 8 (by decide +kernel)) (by kernel_rfl)
              obtain ⟨_, s9, p, rfl, hHp, _, hp2⟩ := hI.val 9 13 (by decide +kernel) (hall 9 (by decide +kernel)) (by kernel_rfl)
              obtain ⟨_, s11, rfl⟩ := hI.val 11 14 (by decide +kernel) (hall 11 (by decide +kernel)) (by kernel_rfl)
              have hfr := si_frame hI [(45, .agg #[.int .i64 V.lg, .slice av NV cv, .int .u64 V.fl, .int .u64 V.ct, .int .u64 V.at9, .int .u64 V.ls]), (46, .slice (some ⟨b, off, none⟩) len cap), (47, .int .i64 (i : Int)), (48, .pointer (some ⟨b, off + i * 7, none⟩)), (49, .agg #[.slice y.da y.dn y.dc, .slice y.aa y.an y.ac, .int .i64 y.E.lg, .int .u64 y.E.fl, .int .u64 y.E.ct, .int .u64 y.E.at9, .int .u64 y.E.ls]), (50, .tuple #[.agg #[.int .i64 X.lg, .slice aq N cq, .int .u64 X.fl, .int .u64 X.ct, .int .u64 X.at9, .int .u64 X.ls], .bool o]), (44, .tuple #[.agg #[.int .i64 X.lg, .slice ar N cr, .int .u64 X.fl, .int .u64 X.ct, .int .u64 X.at9, .int .u64 X.ls], .bool o]), (51, .agg #[.int .i64 X.lg, .slice ay N cy, .int .u64 X.fl, .int .u64 X.ct, .int .u64 X.at9, .int .u64 X.ls]), (52, .bool o), (13, .pointer (some ⟨p, 0, none⟩)), (14, .bool o)] (by kernel_rfl) (List.forall_mem_cons.2 ⟨s0, (List.forall_mem_cons.2 ⟨s1, (List.forall_mem_cons.2 ⟨s2, (List.forall_mem_cons.2 ⟨s3, (List.forall_mem_cons.2 ⟨s4, (List.forall_mem_cons.2 ⟨s5, (List.forall_mem_cons.2 ⟨s6, (List.forall_mem_cons.2 ⟨s7, (List.forall_mem_cons.2 ⟨s8, (List.forall_mem_cons.2 ⟨s9, (List.forall_mem_cons.2 ⟨s11, (by intro x hx; cases hx)⟩)⟩)⟩)⟩)⟩)⟩)⟩)⟩)⟩)⟩)⟩)
              obtain ⟨ax, cx, hekx, hcx, hox⟩ := hp2 (hall 10 (by decide +kernel))
              have hbx := hI.g.1
              rw [hfr]
              clear hfr hI hall hp2 s0 s1 s2 s3 s4 s5 s6 s7 s8 s9 s11
              simp only [List.foldl, List.setIfInBounds_toArray, List.set_cons_zero, List.set_cons_succ]
              go_wp2_with fail
              go_meet
              case rel => exact ⟨rfl, hide ⟨⟨p, ax, cx, rfl, hHp, hekx, hcx, hox⟩, hbx⟩⟩
          case rest =>
            obtain ⟨rfl, hvb⟩ := hcut
            obtain ⟨w2, hw2⟩ : ∃ x, x = wc := ⟨_, rfl⟩
            subst hw2
            have VX := hide hvb.out.1
            have HB2 := hide (HB1.out.trans (hvb.out.2.mono HB1.out.size))
            have hs12 := hvb.out.2.size
            clear hvb
            go_upto_region 9 with fail
            go_cut [15, 16] from 27 to 99 (fun s15 s16 wx => s16 = .bool o ∧ Hid (Vb wx w2.heap.size X N s15 ∧ Below w2.heap.size w2 wx))
            case first =>
              have HVW := hide (show ∀ W, Below w2.heap.size w2 W → Ek W (w.heap.size + 1) #[.int .i64 V.lg, .slice aw NV cw, .int .u64 V.fl, .int .u64 V.ct, .int .u64 V.at9, .int .u64 V.ls] 26 from fun W hW => by have := (SA.out.u.below HB2.out SA.out.u.lt).below hW (Nat.lt_of_lt_of_le SA.out.u.lt HB2.out.size); rw [HNV.out] at this; exact this)
              have HYC := hide (fun W (hW : Below w2.heap.size w2 W) => HYC.out W (HB2.out.trans (hW.mono HB2.out.size)))
              have CA := hide (show ∀ W, Below w2.heap.size w2 W → Calls Try.prog 20 #[.agg #[.int .i64 V.lg, .slice aw NV cw, .int .u64 V.fl, .int .u64 V.ct, .int .u64 V.at9, .int .u64 V.ls], .agg #[.slice y.da y.dn y.dc, .slice y.aa y.an y.ac, .int .i64 y.E.lg, .int .u64 y.E.fl, .int .u64 y.E.ct, .int .u64 y.E.at9, .int .u64 y.E.ls]] W fun e w' => ∃ a c, e = .returned (.tuple #[.agg #[.int .i64 X.lg, .slice a N c, .int .u64 X.fl, .int .u64 X.ct, .int .u64 X.at9, .int .u64 X.ls], .bool o]) ∧ c ≤ 9223372036854775807 ∧ OwnF w' W.heap.size (.slice a N c) X.f ∧ Below W.heap.size W w' from fun W hW => by
                have hW2 : Below wr.heap.size wr W := HB2.out.trans (hW.mono HB2.out.size)
                have hyo := HYO.out.below hW2 (Nat.le_refl _)
                have hfv := (ownF_fsN (ownF_keep SA.out.fu hW2) SA.out.wf rfl).2
                rw [HNV.out] at hfv
                refine (refapply_any aw y.da y.aa NV cw y.dn y.dc y.an y.ac V y.E W hfv hyo.1.1 hyo.2.1.1 (by have := hon.2; have := HNV.out; omega) (by omega) (by omega)).mono fun e w' h => ?_
                obtain ⟨a, c, h1, h2, h3, h4, h5⟩ := apr_any h
                rw [HX.out, HO.out, HN.out] at h1
                rw [HX.out, HN.out] at h3
                exact ⟨a, c, h1, h2, h3, h5⟩)
              clear HAP HEG HLL HS HX HO HN HX1 HWX HA HE VX
              refine region_si (PTh w2.heap.size (.agg #[.int .i64 V.lg, .slice aw NV cw, .int .u64 V.fl, .int .u64 V.ct, .int .u64 V.at9, .int .u64 V.ls]) (some ⟨b, off, none⟩) len cap i b off (.agg #[.slice y.da y.dn y.dc, .slice y.aa y.an y.ac, .int .i64 y.E.lg, .int .u64 y.E.fl, .int .u64 y.E.ct, .int .u64 y.E.at9, .int .u64 y.E.ls]) N X o) (PG w2) (by kernel_rfl) (by kernel_rfl) (by kernel_rfl) ?start ?step ?fin
              case start => exact ⟨(Below.refl _ w2).drew, fun e => (by cases e)⟩
              case step =>
                intro L A W i_ hI hi hLi hw
                have hi2 : i_ < 12 := hi
                rcases (show i_ = 0 ∨ i_ = 1 ∨ i_ = 2 ∨ i_ = 3 ∨ i_ = 4 ∨ i_ = 5 ∨ i_ = 6 ∨ i_ = 7 ∨ i_ = 8 ∨ i_ = 9 ∨ i_ = 10 ∨ i_ = 11 by omega) with rfl | rfl | rfl | rfl | rfl | rfl | rfl | rfl | rfl | rfl | rfl | rfl
                · have e0 := hI.kept 10 _ (by decide +kernel) rfl
                  have c0 : W.cell? ⟨w.heap.size + 1, 0, none⟩ = some (.int .i64 V.lg) := (HVW.out W hI.g.1).cell rfl
                  have c1 : W.cell? ⟨w.heap.size + 1, 1, none⟩ = some (.slice aw NV cw) := (HVW.out W hI.g.1).cell rfl
                  have c2 : W.cell? ⟨w.heap.size + 1, 2, none⟩ = some (.int .u64 V.fl) := (HVW.out W hI.g.1).cell rfl
                  have c3 : W.cell? ⟨w.heap.size + 1, 3, none⟩ = some (.int .u64 V.ct) := (HVW.out W hI.g.1).cell rfl
                  have c4 : W.cell? ⟨w.heap.size + 1, 4, none⟩ = some (.int .u64 V.at9) := (HVW.out W hI.g.1).cell rfl
                  have c5 : W.cell? ⟨w.heap.size + 1, 5, none⟩ = some (.int .u64 V.ls) := (HVW.out W hI.g.1).cell rfl
                  refine hI.pure (by kernel_rfl) (by decide +kernel) (i := 0) (d := 54) rfl rfl rfl (v := .agg #[.int .i64 V.lg, .slice aw NV cw, .int .u64 V.fl, .int .u64 V.ct, .int .u64 V.at9, .int .u64 V.ls]) (rfl) (fun j u _ _ h => pth_keep (upd10 (by decide)) (Below.refl _ _) j u h) (pg_upd 0 (by decide) hI.g) ?_
                  intro K hKK
                  go_simp
                  exact hKK
                · have e0 := hI.kept 0 _ (by decide +kernel) rfl
                  refine hI.pure (by kernel_rfl) (by decide +kernel) (i := 1) (d := 55) rfl rfl rfl (v := .slice (some ⟨b, off, none⟩) len cap) (rfl) (fun j u _ _ h => pth_keep (upd10 (by decide)) (Below.refl _ _) j u h) (pg_upd 1 (by decide) hI.g) ?_
                  intro K hKK
                  go_simp
                  exact hKK
                · have e0 := hI.kept 12 _ (by decide +kernel) rfl
                  refine hI.pure (by kernel_rfl) (by decide +kernel) (i := 2) (d := 56) rfl rfl rfl (v := .int .i64 (i : Int)) (rfl) (fun j u _ _ h => pth_keep (upd10 (by decide)) (Below.refl _ _) j u h) (pg_upd 2 (by decide) hI.g) ?_
                  intro K hKK
                  go_simp
                  exact hKK
                · obtain ⟨_, e0, rfl⟩ := hI.val 1 55 (by decide +kernel) (hw 1 (by kernel_rfl)) (by kernel_rfl)
                  obtain ⟨_, e1, rfl⟩ := hI.val 2 56 (by decide +kernel) (hw 2 (by kernel_rfl)) (by kernel_rfl)
                  refine hI.pure (by kernel_rfl) (by decide +kernel) (i := 3) (d := 57) rfl rfl rfl (v := .pointer (some ⟨b, off + i * 7, none⟩)) (rfl) (fun j u _ _ h => pth_keep (upd10 (by decide)) (Below.refl _ _) j u h) (pg_upd 3 (by decide) hI.g) ?_
                  intro K hKK
                  go_simp
                  exact hKK
                · obtain ⟨_, e0, rfl⟩ := hI.val 3 57 (by decide +kernel) (hw 3 (by kernel_rfl)) (by kernel_rfl)
                  obtain ⟨c0, c1, c2, c3, c4, c5, c6⟩ := HYC.out W hI.g.1
                  refine hI.pure (by kernel_rfl) (by decide +kernel) (i := 4) (d := 58) rfl rfl rfl (v := .agg #[.slice y.da y.dn y.dc, .slice y.aa y.an y.ac, .int .i64 y.E.lg, .int .u64 y.E.fl, .int .u64 y.E.ct, .int .u64 y.E.at9, .int .u64 y.E.ls]) (rfl) (fun j u _ _ h => pth_keep (upd10 (by decide)) (Below.refl _ _) j u h) (pg_upd 4 (by decide) hI.g) ?_
                  intro K hKK
                  go_simp
                  exact hKK
                · obtain ⟨_, e0, rfl⟩ := hI.val 0 54 (by decide +kernel) (hw 0 (by kernel_rfl)) (by kernel_rfl)
                  obtain ⟨_, e1, rfl⟩ := hI.val 4 58 (by decide +kernel) (hw 4 (by kernel_rfl)) (by kernel_rfl)
                  have h10 := pg10 hI.g (i := 5) (by decide) (by decide) hLi
                  refine hI.more (by kernel_rfl) (by decide +kernel) (i := 5) (d := 59) rfl rfl rfl ?_
                  intro K hKK
                  go_simp
                  refine (CA.out W hI.g.1).mono ?_
                  rintro e W' ⟨a', c', rfl, hc', ho', hb'⟩
                  exact hKK _ _ ⟨a', c', rfl, hc', fun _ => ownF_base ho' hI.g.1.size⟩ (fun j u _ _ h => pth_keep (upd10 (by decide)) hb' j u h) (pg_upd 5 (by decide) (pg_below hI.g hb'))
                · obtain ⟨_, e0, a', c', rfl, hc', ho'⟩ := hI.val 5 59 (by decide +kernel) (hw 5 (by kernel_rfl)) (by kernel_rfl)
                  refine hI.pure (by kernel_rfl) (by decide +kernel) (i := 6) (d := 53) rfl rfl rfl (v := .tuple #[.agg #[.int .i64 X.lg, .slice a' N c', .int .u64 X.fl, .int .u64 X.ct, .int .u64 X.at9, .int .u64 X.ls], .bool o]) (⟨a', c', rfl, hc', fun e => ho' ((upd10 (L := L) (i := 6) (by decide)).symm.trans e)⟩) (fun j u _ _ h => pth_keep (upd10 (by decide)) (Below.refl _ _) j u h) (pg_upd 6 (by decide) hI.g) ?_
                  intro K hKK
                  go_simp
                  exact hKK
                · obtain ⟨_, e0, a', c', rfl, hc', ho'⟩ := hI.val 6 53 (by decide +kernel) (hw 6 (by kernel_rfl)) (by kernel_rfl)
                  refine hI.pure (by kernel_rfl) (by decide +kernel) (i := 7) (d := 60) rfl rfl rfl (v := .agg #[.int .i64 X.lg, .slice a' N c', .int .u64 X.fl, .int .u64 X.ct, .int .u64 X.at9, .int .u64 X.ls]) (⟨a', c', rfl, hc', fun e => ho' ((upd10 (L := L) (i := 7) (by decide)).symm.trans e)⟩) (fun j u _ _ h => pth_keep (upd10 (by decide)) (Below.refl _ _) j u h) (pg_upd 7 (by decide) hI.g) ?_
                  intro K hKK
                  go_simp
                  exact hKK
                · obtain ⟨_, e0, a', c', rfl, hc', ho'⟩ := hI.val 6 53 (by decide +kernel) (hw 6 (by kernel_rfl)) (by kernel_rfl)
                  refine hI.pure (by kernel_rfl) (by decide +kernel) (i := 8) (d := 61) rfl rfl rfl (v := .bool o) (rfl) (fun j u _ _ h => pth_keep (upd10 (by decide)) (Below.refl _ _) j u h) (pg_upd 8 (by decide) hI.g) ?_
                  intro K hKK
                  go_simp
                  exact hKK
                · have h10 := pg10 hI.g (i := 9) (by decide) (by decide) hLi
                  refine hI.more (by kernel_rfl) (by decide +kernel) (i := 9) (d := 15) rfl rfl rfl ?_
                  intro K hKK
                  have A := (Below.refl _ W).alloc (Nat.le_refl _) (Obj.cells #[.int .i64 0, .slice none 0 0, .int .u64 0, .int .u64 0, .int .u64 0, .int .u64 0] 26)
                  go_simp
                  exact hKK _ _ ⟨W.heap.size, rfl, hI.g.1.size, fun _ => ek_new W _ _, fun e => (by rw [upd10 (by decide), h10] at e; cases e)⟩ (fun j u _ _ h => pth_keep (upd10 (by decide)) A j u h) (pg_upd 9 (by decide) (pg_below hI.g A))
                · obtain ⟨_, e0, a', c', rfl, hc', ho'⟩ := hI.val 7 60 (by decide +kernel) (hw 7 (by kernel_rfl)) (by kernel_rfl)
                  obtain ⟨_, e1, p, rfl, hHp, hz, _⟩ := hI.val 9 15 (by decide +kernel) (hw 9 (by kernel_rfl)) (by kernel_rfl)
                  have ho' := ho' hLi
                  have hz := hz hLi
                  refine hI.store (by decide +kernel) (i := 10) rfl rfl rfl ?_
                  intro K hKK
                  have z0 : W.cell? ⟨p, 0, none⟩ = some (.int .i64 0) := hz.cell rfl
                  have y0 := hz.free 0
                  have z1 : W.cell? ⟨p, 1, none⟩ = some (.slice none 0 0) := hz.cell rfl
                  have y1 := hz.free 1
                  have z2 : W.cell? ⟨p, 2, none⟩ = some (.int .u64 0) := hz.cell rfl
                  have y2 := hz.free 2
                  have z3 : W.cell? ⟨p, 3, none⟩ = some (.int .u64 0) := hz.cell rfl
                  have y3 := hz.free 3
                  have z4 : W.cell? ⟨p, 4, none⟩ = some (.int .u64 0) := hz.cell rfl
                  have y4 := hz.free 4
                  have z5 : W.cell? ⟨p, 5, none⟩ = some (.int .u64 0) := hz.cell rfl
                  have y5 := hz.free 5
                  have HZ := hide hz
                  have HOW := hide ho'
                  clear hz ho'
                  go_simp
                  have hg := egrow (k := 5) (u := .int .u64 X.ls) (egrow (k := 4) (u := .int .u64 X.at9) (egrow (k := 3) (u := .int .u64 X.ct) (egrow (k := 2) (u := .int .u64 X.fl) (egrow (k := 1) (u := .slice a' N c') (fgb_set W ⟨p, 0, none⟩ (.int .i64 X.lg))))))
                  have hzz := (((((HZ.out.set 0 (.int .i64 X.lg)).set 1 (.slice a' N c')).set 2 (.int .u64 X.fl)).set 3 (.int .u64 X.ct)).set 4 (.int .u64 X.at9)).set 5 (.int .u64 X.ls)
                  have how2 := ownF_far HOW.out hg (own_not_view HOW.out HZ.out)
                  refine hKK _ (fun j e u _ _ hde hu h => pth_store (upd_same _ _) j u (fun hj => ?_) h) ⟨hI.g.1.grown hg hI.g.1.size (fun k hk => by cases hk; exact hHp), fun _ j hj h8 => upd_more (hw j (waits_but (k := 8) (by kernel_rfl) j hj h8))⟩
                  subst hj
                  have he : some e = some 15 := hde.symm.trans (by kernel_rfl)
                  cases he
                  rw [e1] at hu
                  cases hu
                  exact ⟨p, rfl, hHp, fun e => (by rw [upd_same] at e; cases e), fun _ => ⟨a', c', hzz, hc', how2⟩⟩
                · obtain ⟨_, e0, rfl⟩ := hI.val 8 61 (by decide +kernel) (hw 8 (by kernel_rfl)) (by kernel_rfl)
                  refine hI.pure (by kernel_rfl) (by decide +kernel) (i := 11) (d := 16) rfl rfl rfl (v := .bool o) (rfl) (fun j u _ _ h => pth_keep (upd10 (by decide)) (Below.refl _ _) j u h) (pg_upd 11 (by decide) hI.g) ?_
                  intro K hKK
                  go_simp
                  exact hKK
              case fin =>
                intro L A W hI hall
                obtain ⟨_, s0, rfl⟩ := hI.val 0 54 (by decide +kernel) (hall 0 (by decide +kernel)) (by kernel_rfl)
                obtain ⟨_, s1, rfl⟩ := hI.val 1 55 (by decide +kernel) (hall 1 (by decide +kernel)) (by kernel_rfl)
                obtain ⟨_, s2, rfl⟩ := hI.val 2 56 (by decide +kernel) (hall 2 (by decide +kernel)) (by kernel_rfl)
                obtain ⟨_, s3, rfl⟩ := hI.val 3 57 (by decide +kernel) (hall 3 (by decide +kernel)) (by kernel_rfl)
                obtain ⟨_, s4, rfl⟩ := hI.val 4 58 (by decide +kernel) (hall 4 (by decide +kernel)) (by kernel_rfl)
                obtain ⟨_, s5, aq, cq, rfl, _, _⟩ := hI.val 5 59 (by decide +kernel) (hall 5 (by decide +kernel)) (by kernel_rfl)
                obtain ⟨_, s6, ar, cr, rfl, _, _⟩ := hI.val 6 53 (by decide +kernel) (hall 6 (by decide +kernel)) (by kernel_rfl)
                obtain ⟨_, s7, ay, cy, rfl, _, _⟩ := hI.val 7 60 (by decide +kernel) (hall 7 (by decide +kernel)) (by kernel_rfl)
                obtain ⟨_, s8, rfl⟩ := hI.val 8 61 (by decide +kernel) (hall 8 (by decide +kernel)) (by kernel_rfl)
                obtain ⟨_, s9, p, rfl, hHp, _, hp2⟩ := hI.val 9 15 (by decide +kernel) (hall 9 (by decide +kernel)) (by kernel_rfl)
                obtain ⟨_, s11, rfl⟩ := hI.val 11 16 (by decide +kernel) (hall 11 (by decide +kernel)) (by kernel_rfl)
                have hfr := si_frame hI [(54, .agg #[.int .i64 V.lg, .slice aw NV cw, .int .u64 V.fl, .int .u64 V.ct, .int .u64 V.at9, .int .u64 V.ls]), (55, .slice (some ⟨b, off, none⟩) len cap), (56, .int .i64 (i : Int)), (57, .pointer (some ⟨b, off + i * 7, none⟩)), (58, .agg #[.slice y.da y.dn y.dc, .slice y.aa y.an y.ac, .int .i64 y.E.lg, .int .u64 y.E.fl, .int .u64 y.E.ct, .int .u64 y.E.at9, .int .u64 y.E.ls]), (59, .tuple #[.agg #[.int .i64 X.lg, .slice aq N cq, .int .u64 X.fl, .int .u64 X.ct, .int .u64 X.at9, .int .u64 X.ls], .bool o]), (53, .tuple #[.agg #[.int .i64 X.lg, .slice ar N cr, .int .u64 X.fl, .int .u64 X.ct, .int .u64 X.at9, .int .u64 X.ls], .bool o]), (60, .agg #[.int .i64 X.lg, .slice ay N cy, .int .u64 X.fl, .int .u64 X.ct, .int .u64 X.at9, .int .u64 X.ls]), (61, .bool o), (15, .pointer (some ⟨p, 0, none⟩)), (16, .bool o)] (by kernel_rfl) (List.forall_mem_cons.2 ⟨s0, (List.forall_mem_cons.2 ⟨s1, (List.forall_mem_cons.2 ⟨s2, (List.forall_mem_cons.2 ⟨s3, (List.forall_mem_cons.2 ⟨s4, (List.forall_mem_cons.2 ⟨s5, (List.forall_mem_cons.2 ⟨s6, (List.forall_mem_cons.2 ⟨s7, (List.forall_mem_cons.2 ⟨s8, (List.forall_mem_cons.2 ⟨s9, (List.forall_mem_cons.2 ⟨s11, (by intro x hx; cases hx)⟩)⟩)⟩)⟩)⟩)⟩)⟩)⟩)⟩)⟩)⟩)
                obtain ⟨ax, cx, hekx, hcx, hox⟩ := hp2 (hall 10 (by decide +kernel))
                have hbx := hI.g.1
                rw [hfr]
                clear hfr hI hall hp2 s0 s1 s2 s3 s4 s5 s6 s7 s8 s9 s11
                simp only [List.foldl, List.setIfInBounds_toArray, List.set_cons_zero, List.set_cons_succ]
                go_wp2_with fail
                go_meet
                case rel => exact ⟨rfl, hide ⟨⟨p, ax, cx, rfl, hHp, hekx, hcx, hox⟩, hbx⟩⟩
            case rest =>
              obtain ⟨rfl, hvb⟩ := hcut
              obtain ⟨w3, hw3⟩ : ∃ x, x = wc := ⟨_, rfl⟩
              subst hw3
              obtain ⟨p, a, c, rfl, hp, hkp, hc, hop⟩ := VX.out.keep hvb.out.2
              obtain ⟨p', a', c', rfl, hp', hkp', hc', hop'⟩ := hvb.out.1
              have HB3 := hide (HB2.out.trans (hvb.out.2.mono HB2.out.size))
              have SA3 := hide (SA.out.keep HB3.out)
              have hs23 := hvb.out.2.size
              have hfx := (ownF_fsN hop HWX.out HN.out).2
              have hfy := (ownF_fsN hop' HWX.out HN.out).2
              have hNl : N ≤ 9223372036854775807 := by have := hfx.2.1.1; omega
              have CS := hide (fun W (hW : Below w3.heap.size w3 W) => (psame_any a a' N c N c' X X W (hfx.below hW (Nat.le_refl _)) (hfy.below hW (Nat.le_refl _)) hNl hNl).mono (R' := fun e w' => e = .returned (.bool true) ∧ Below W.heap.size W w') fun e w' ⟨o, h1, h2, h3⟩ => by rw [h2.2 rfl] at h1; exact ⟨h1, h3⟩)
              have CV := hide (fun W (hW : Below w3.heap.size w3 W) => (sameview_any a a' N c N c' X X W (hfx.below hW (Nat.le_refl _)) (hfy.below hW (Nat.le_refl _)) hNl hNl).mono (R' := fun e w' => e = .returned (.bool true) ∧ Below W.heap.size W w') fun e w' ⟨o, h1, h2, h3⟩ => by rw [h2.2 rfl] at h1; exact ⟨h1, h3⟩)
              have KP := hide hkp
              have KQ := hide hkp'
              have HOP := hide hop
              have HOQ := hide hop'
              have px0 : w3.cell? ⟨p, 0, none⟩ = some (.int .i64 X.lg) := (hkp).cell rfl
              have px1 : w3.cell? ⟨p, 1, none⟩ = some (.slice a N c) := (hkp).cell rfl
              have px2 : w3.cell? ⟨p, 2, none⟩ = some (.int .u64 X.fl) := (hkp).cell rfl
              have px3 : w3.cell? ⟨p, 3, none⟩ = some (.int .u64 X.ct) := (hkp).cell rfl
              have px4 : w3.cell? ⟨p, 4, none⟩ = some (.int .u64 X.at9) := (hkp).cell rfl
              have px5 : w3.cell? ⟨p, 5, none⟩ = some (.int .u64 X.ls) := (hkp).cell rfl
              have py0 : w3.cell? ⟨p', 0, none⟩ = some (.int .i64 X.lg) := (hkp').cell rfl
              have py1 : w3.cell? ⟨p', 1, none⟩ = some (.slice a' N c') := (hkp').cell rfl
              have py2 : w3.cell? ⟨p', 2, none⟩ = some (.int .u64 X.fl) := (hkp').cell rfl
              have py3 : w3.cell? ⟨p', 3, none⟩ = some (.int .u64 X.ct) := (hkp').cell rfl
              have py4 : w3.cell? ⟨p', 4, none⟩ = some (.int .u64 X.at9) := (hkp').cell rfl
              have py5 : w3.cell? ⟨p', 5, none⟩ = some (.int .u64 X.ls) := (hkp').cell rfl
              have hoo : (o != o) = false := by cases o <;> rfl
              have hlp := hkp.lt
              have hlq := hkp'.lt
              unfold vwV at CS CV
              clear hvb hkp hkp' hop hop' hfx hfy VX
              go_wp2_with fail
              refine (CS.out w3 (Below.refl _ _)).mono ?_
              rintro e w4 ⟨rfl, hb4⟩
              clear px0 px1 px2 px3 px4 px5 py0 py1 py2 py3 py4 py5 CS
              have hk4 := KP.out.below hb4 KP.out.lt
              have hk4' := KQ.out.below hb4 KQ.out.lt
              have px0 : w4.cell? ⟨p, 0, none⟩ = some (.int .i64 X.lg) := (hk4).cell rfl
              have px1 : w4.cell? ⟨p, 1, none⟩ = some (.slice a N c) := (hk4).cell rfl
              have px2 : w4.cell? ⟨p, 2, none⟩ = some (.int .u64 X.fl) := (hk4).cell rfl
              have px3 : w4.cell? ⟨p, 3, none⟩ = some (.int .u64 X.ct) := (hk4).cell rfl
              have px4 : w4.cell? ⟨p, 4, none⟩ = some (.int .u64 X.at9) := (hk4).cell rfl
              have px5 : w4.cell? ⟨p, 5, none⟩ = some (.int .u64 X.ls) := (hk4).cell rfl
              have py0 : w4.cell? ⟨p', 0, none⟩ = some (.int .i64 X.lg) := (hk4').cell rfl
              have py1 : w4.cell? ⟨p', 1, none⟩ = some (.slice a' N c') := (hk4').cell rfl
              have py2 : w4.cell? ⟨p', 2, none⟩ = some (.int .u64 X.fl) := (hk4').cell rfl
              have py3 : w4.cell? ⟨p', 3, none⟩ = some (.int .u64 X.ct) := (hk4').cell rfl
              have py4 : w4.cell? ⟨p', 4, none⟩ = some (.int .u64 X.at9) := (hk4').cell rfl
              have py5 : w4.cell? ⟨p', 5, none⟩ = some (.int .u64 X.ls) := (hk4').cell rfl
              have hb34 := hide hb4
              clear hk4 hk4' hb4
              go_wp2_with fail
              refine (CV.out w4 hb34.out).mono ?_
              rintro e w5 ⟨rfl, hb5⟩
              clear px0 px1 px2 px3 px4 px5 py0 py1 py2 py3 py4 py5 CV
              have hb35 := hb34.out.trans (hb5.mono hb34.out.size)
              have SA5 := hide (SA3.out.keep hb35)
              have KP5 := hide (KP.out.below hb35 KP.out.lt)
              have KQ5 := hide (KQ.out.below hb35 KQ.out.lt)
              have HOP5 := hide (ownF_keep HOP.out hb35)
              have HOQ5 := hide (ownF_keep HOQ.out hb35)
              have HB5 := hide (HB3.out.trans (hb35.mono HB3.out.size))
              have hs35 := hb35.size
              clear hb34 hb5 hb35 SA3 KP KQ HOP HOQ HB3 hoo
              go_upto_region 12 with fail
              go_cut [85] from 27 to 99 (fun s85 wx => ∃ q : Bool, s85 = .bool q ∧ (q = true → o = true ∧ emay y.E = 0) ∧ Hid (Below w5.heap.size w5 wx))
              case first =>
                cases o with
                | false =>
                  go_wp2_with fail
                  go_meet
                  case rel => exact ⟨false, rfl, fun e => (by cases e), hide (Below.refl _ _)⟩
                | true =>
                  obtain ⟨d0, d1, d2, d3, d4, d5, d6⟩ := HYC.out w5 HB5.out
                  have hyo := HYO.out.below HB5.out (Nat.le_refl _)
                  have CM := hide (editmay_any y.da y.dn y.dc y.aa y.an y.ac y.E w5 hyo.1.1 hyo.2.1.1 hyo.1.2 hyo.2.1.2)
                  unfold edV at CM
                  clear HX1 HX HO HN HWX HAP HEG HS HLL HE HA hyo
                  go_wp2_with fail
                  refine CM.out.mono ?_
                  rintro e w6 ⟨rfl, hb6⟩
                  by_cases hm : emay y.E = 0
                  · have qm : (emay y.E == 0) = true := by simp [hm]
                    have HM := hide hm
                    have HB6 := hide hb6
                    clear CM hm hb6
                    go_wp2_with fail
                    go_meet
                    case rel => exact ⟨_, rfl, fun _ => ⟨by first | trivial | rfl, HM.out⟩, HB6⟩
                  · have qm : (emay y.E == 0) = false := by simp [hm]
                    have HB6 := hide hb6
                    clear CM hm hb6
                    go_wp2_with fail
                    go_meet
                    case rel => exact ⟨_, rfl, fun e => (by cases e), HB6⟩
              case rest =>
                obtain ⟨q, rfl, hqq, hbw⟩ := hcut
                obtain ⟨w6, hw6⟩ : ∃ x, x = wc := ⟨_, rfl⟩
                subst hw6
                have SA6 := hide (SA5.out.keep hbw.out)
                have KP6 := hide (KP5.out.below hbw.out KP5.out.lt)
                have KQ6 := hide (KQ5.out.below hbw.out KQ5.out.lt)
                have HOP6 := hide (ownF_keep HOP5.out hbw.out)
                have HOQ6 := hide (ownF_keep HOQ5.out hbw.out)
                have hs56 := hbw.out.size
                clear hbw SA5 KP5 KQ5 HOP5 HOQ5
                have hwsz := SA6.out.sz
                have hwr2 := SA.out.sz
                go_upto_if 85 with fail
                go_cut [11] from 27 to 99 (fun s11 wx => ∃ S' : ByteArray, s11 = .string S' ∧ Hid (SaL w wx S' (i + 1) ∧ Vb wx w1.heap.size X N (.pointer (some ⟨p, 0, none⟩))))
                case first =>
                  cases q with
                  | false =>
                    go_wp2_with fail
                    go_meet
                    case rel => exact ⟨S, rfl, hide ⟨⟨l, V, av, cv, aw, cw, SA6.out, HAP.out, HEG.out, by have := HLL.out; omega, HS.out⟩, ⟨p, a, c, rfl, hp, KP6.out, hc, HOP6.out⟩⟩⟩
                  | true =>
                    obtain ⟨rfl, hm⟩ := hqq rfl
                    have hap := HX1.out rfl
                    have HM := hide hm
                    have HAX := hide hap
                    have hkp := KP6.out
                    have hkq := KQ6.out
                    have hv := SA6.out.v
                    have hu := SA6.out.u
                    have px0 : w6.cell? ⟨p, 0, none⟩ = some (.int .i64 X.lg) := (hkp).cell rfl
                    have px1 : w6.cell? ⟨p, 1, none⟩ = some (.slice a N c) := (hkp).cell rfl
                    have px2 : w6.cell? ⟨p, 2, none⟩ = some (.int .u64 X.fl) := (hkp).cell rfl
                    have px3 : w6.cell? ⟨p, 3, none⟩ = some (.int .u64 X.ct) := (hkp).cell rfl
                    have px4 : w6.cell? ⟨p, 4, none⟩ = some (.int .u64 X.at9) := (hkp).cell rfl
                    have px5 : w6.cell? ⟨p, 5, none⟩ = some (.int .u64 X.ls) := (hkp).cell rfl
                    have py0 : w6.cell? ⟨p', 0, none⟩ = some (.int .i64 X.lg) := (hkq).cell rfl
                    have py1 : w6.cell? ⟨p', 1, none⟩ = some (.slice a' N c') := (hkq).cell rfl
                    have py2 : w6.cell? ⟨p', 2, none⟩ = some (.int .u64 X.fl) := (hkq).cell rfl
                    have py3 : w6.cell? ⟨p', 3, none⟩ = some (.int .u64 X.ct) := (hkq).cell rfl
                    have py4 : w6.cell? ⟨p', 4, none⟩ = some (.int .u64 X.at9) := (hkq).cell rfl
                    have py5 : w6.cell? ⟨p', 5, none⟩ = some (.int .u64 X.ls) := (hkq).cell rfl
                    have va0 : w6.cell? ⟨w.heap.size, 0, none⟩ = some (.int .i64 V.lg) := (hv).cell rfl
                    have va1 : w6.cell? ⟨w.heap.size, 1, none⟩ = some (.slice av V.f.length cv) := (hv).cell rfl
                    have va2 : w6.cell? ⟨w.heap.size, 2, none⟩ = some (.int .u64 V.fl) := (hv).cell rfl
                    have va3 : w6.cell? ⟨w.heap.size, 3, none⟩ = some (.int .u64 V.ct) := (hv).cell rfl
                    have va4 : w6.cell? ⟨w.heap.size, 4, none⟩ = some (.int .u64 V.at9) := (hv).cell rfl
                    have va5 : w6.cell? ⟨w.heap.size, 5, none⟩ = some (.int .u64 V.ls) := (hv).cell rfl
                    have vf0 : w6.frozen? ⟨w.heap.size, 0, none⟩ = false := (hv).free 0
                    have vf1 : w6.frozen? ⟨w.heap.size, 1, none⟩ = false := (hv).free 1
                    have vf2 : w6.frozen? ⟨w.heap.size, 2, none⟩ = false := (hv).free 2
                    have vf3 : w6.frozen? ⟨w.heap.size, 3, none⟩ = false := (hv).free 3
                    have vf4 : w6.frozen? ⟨w.heap.size, 4, none⟩ = false := (hv).free 4
                    have vf5 : w6.frozen? ⟨w.heap.size, 5, none⟩ = false := (hv).free 5
                    have vb0 : w6.cell? ⟨w.heap.size + 1, 0, none⟩ = some (.int .i64 V.lg) := (hu).cell rfl
                    have vb1 : w6.cell? ⟨w.heap.size + 1, 1, none⟩ = some (.slice aw V.f.length cw) := (hu).cell rfl
                    have vb2 : w6.cell? ⟨w.heap.size + 1, 2, none⟩ = some (.int .u64 V.fl) := (hu).cell rfl
                    have vb3 : w6.cell? ⟨w.heap.size + 1, 3, none⟩ = some (.int .u64 V.ct) := (hu).cell rfl
                    have vb4 : w6.cell? ⟨w.heap.size + 1, 4, none⟩ = some (.int .u64 V.at9) := (hu).cell rfl
                    have vb5 : w6.cell? ⟨w.heap.size + 1, 5, none⟩ = some (.int .u64 V.ls) := (hu).cell rfl
                    have vg0 : w6.frozen? ⟨w.heap.size + 1, 0, none⟩ = false := (hu).free 0
                    have vg1 : w6.frozen? ⟨w.heap.size + 1, 1, none⟩ = false := (hu).free 1
                    have vg2 : w6.frozen? ⟨w.heap.size + 1, 2, none⟩ = false := (hu).free 2
                    have vg3 : w6.frozen? ⟨w.heap.size + 1, 3, none⟩ = false := (hu).free 3
                    have vg4 : w6.frozen? ⟨w.heap.size + 1, 4, none⟩ = false := (hu).free 4
                    have vg5 : w6.frozen? ⟨w.heap.size + 1, 5, none⟩ = false := (hu).free 5
                    have hlv := hv.lt
                    have hlu := hu.lt
                    have hlp := hkp.lt
                    have hlq := hkq.lt
                    clear hm hap hkp hkq hv hu
                    go_wp2_with fail
                    go_region
                    have hopX : OwnF w6 (w.heap.size + 2) (.slice a X.f.length c) X.f := by rw [HN.out]; exact ownF_base HOP6.out (by omega)
                    have hoqX : OwnF w6 (w.heap.size + 2) (.slice a' X.f.length c') X.f := by rw [HN.out]; exact ownF_base HOQ6.out (by omega)
                    have SA7 := SA6.out.put hopX hoqX ⟨hc, hc'⟩ HWX.out
                    have VB7 := ((show Vb w6 w1.heap.size X N (.pointer (some ⟨p, 0, none⟩)) from ⟨p, a, c, rfl, hp, KP6.out, hc, HOP6.out⟩).far (gset6 w6 w.heap.size (.int .i64 X.lg) (.slice a N c) (.int .u64 X.fl) (.int .u64 X.ct) (.int .u64 X.at9) (.int .u64 X.ls)) (by omega)).far (gset6 (set6 w6 w.heap.size (.int .i64 X.lg) (.slice a N c) (.int .u64 X.fl) (.int .u64 X.ct) (.int .u64 X.at9) (.int .u64 X.ls)) (w.heap.size + 1) (.int .i64 X.lg) (.slice a' N c') (.int .u64 X.fl) (.int .u64 X.ct) (.int .u64 X.at9) (.int .u64 X.ls)) (by omega)
                    rw [HN.out] at SA7
                    have SA8 := hide (SA7.keep (Below.refl _ _).drew)
                    have VB8 := hide (VB7.keep (Below.refl _ _).drew)
                    unfold set6 at SA8 VB8
                    clear SA7 VB7 hopX hoqX SA6 KP6 KQ6 HOP6 HOQ6 px0 px1 px2 px3 px4 px5 py0 py1 py2 py3 py4 py5 va0 va1 va2 va3 va4 va5 vf0 vf1 vf2 vf3 vf4 vf5 vb0 vb1 vb2 vb3 vb4 vb5 vg0 vg1 vg2 vg3 vg4 vg5
                    generalize ((((((((((((w6.setCell ⟨w.heap.size, 0, none⟩ (.int .i64 X.lg)).setCell ⟨w.heap.size, 1, none⟩ (.slice a N c)).setCell ⟨w.heap.size, 2, none⟩ (.int .u64 X.fl)).setCell ⟨w.heap.size, 3, none⟩ (.int .u64 X.ct)).setCell ⟨w.heap.size, 4, none⟩ (.int .u64 X.at9)).setCell ⟨w.heap.size, 5, none⟩ (.int .u64 X.ls)).setCell ⟨w.heap.size + 1, 0, none⟩ (.int .i64 X.lg)).setCell ⟨w.heap.size + 1, 1, none⟩ (.slice a' N c')).setCell ⟨w.heap.size + 1, 2, none⟩ (.int .u64 X.fl)).setCell ⟨w.heap.size + 1, 3, none⟩ (.int .u64 X.ct)).setCell ⟨w.heap.size + 1, 4, none⟩ (.int .u64 X.at9)).setCell ⟨w.heap.size + 1, 5, none⟩ (.int .u64 X.ls)).drew = w7 at *
                    obtain ⟨y2, b2, o2, hy2, e2, hyo2, d0, d1, d2, d3, d4, d5, d6⟩ := es_at (HE.out w7 SA8.out.bel) i hl1
                    injection e2 with e2
                    injection e2 with e2 e3
                    subst e2 e3
                    obtain rfl : y2 = y := Option.some.inj (hy2.symm.trans HY.out)
                    have hu : 0 ≤ y2.E.fl ∧ 0 ≤ y2.E.ct ∧ 0 ≤ y2.E.at9 ∧ 0 ≤ y2.E.ls := ⟨hyo2.2.2.2.1.1, hyo2.2.2.2.2.1.1, hyo2.2.2.2.2.2.1.1, hyo2.2.2.2.2.2.2.1⟩
                    have CE := hide (redit_any y2.da y2.dn y2.dc y2.aa y2.an y2.ac y2.E w7 hyo2.1.1 hyo2.2.1.1 HM.out hu)
                    have HU := hide hu
                    have hell := el_len l HEG.out
                    have hle := ebd_len HM.out
                    have hadd : ∀ W, (Op.stringOp .add S (strOfNums (fr 6 (ebd y2.E)))).run Try.prog W = .ok (.string (strOfNums (el (l ++ [y2.E])))) W := fun W => by
                      rw [el_app, el_one, HS.out, ← str_app]
                      exact run_string_add_sum W _ _ (by rw [str_size, str_size, fr_len]; have := HLL.out; omega)
                    unfold edV at CE
                    have HADD := hide hadd
                    clear hyo2 hy2 hu hell hle hadd
                    go_wp2_with fail
                    refine CE.out.mono ?_
                    rintro e w8 ⟨rfl, hb8⟩
                    have HB8 := hide hb8
                    have hadd := HADD.out
                    clear CE hb8 d0 d1 d2 d3 d4 d5 d6
                    go_wp2_with fail
                    go_meet
                    case rel => exact ⟨_, rfl, hide ⟨⟨l ++ [y2.E], X, a, c, a', c', SA8.out.keep HB8.out, apE_snoc HAP.out HAX.out, fun E hE => by
                      rcases List.mem_append.1 hE with e | e
                      · exact HEG.out E e
                      · rw [List.mem_singleton.1 e]; exact ⟨HM.out, HU.out⟩, by rw [List.length_append]; have := HLL.out; simp; omega, rfl⟩, VB8.out.keep HB8.out⟩⟩
                case rest =>
                  obtain ⟨S', rfl, hsv⟩ := hcut
                  obtain ⟨w7, hw7⟩ : ∃ x, x = wc := ⟨_, rfl⟩
                  subst hw7
                  obtain ⟨p9, a9, c9, e9, hp9, hk9, hc9, ho9⟩ := hsv.out.2
                  injection e9 with e9
                  injection e9 with e9
                  injection e9 with e9 _ _
                  subst e9
                  have HSV := hide hsv.out.1
                  have hfx := (ownF_fsN ho9 HWX.out HN.out).2
                  have hNl2 : N ≤ 9223372036854775807 := by have := hfx.2.1.1; omega
                  obtain ⟨vo, hvo⟩ : ∃ v, vok X = v := ⟨_, rfl⟩
                  have pq0 : ∀ q : Kp w7, q.W.cell? ⟨p, 0, none⟩ = some (.int .i64 X.lg) := fun q => (hk9.below q.h hk9.lt).cell rfl
                  have pq1 : ∀ q : Kp w7, q.W.cell? ⟨p, 1, none⟩ = some (.slice a9 N c9) := fun q => (hk9.below q.h hk9.lt).cell rfl
                  have pq2 : ∀ q : Kp w7, q.W.cell? ⟨p, 2, none⟩ = some (.int .u64 X.fl) := fun q => (hk9.below q.h hk9.lt).cell rfl
                  have pq3 : ∀ q : Kp w7, q.W.cell? ⟨p, 3, none⟩ = some (.int .u64 X.ct) := fun q => (hk9.below q.h hk9.lt).cell rfl
                  have pq4 : ∀ q : Kp w7, q.W.cell? ⟨p, 4, none⟩ = some (.int .u64 X.at9) := fun q => (hk9.below q.h hk9.lt).cell rfl
                  have pq5 : ∀ q : Kp w7, q.W.cell? ⟨p, 5, none⟩ = some (.int .u64 X.ls) := fun q => (hk9.below q.h hk9.lt).cell rfl
                  have co : Hid (∀ q : Kp w7, Calls Try.prog 22 #[.agg #[.int .i64 X.lg, .slice a9 N c9, .int .u64 X.fl, .int .u64 X.ct, .int .u64 X.at9, .int .u64 X.ls]] q.W fun e w'' => e = .returned (.bool vo) ∧ ∃ q' : Kp w7, w'' = q'.W) := hide fun q => kp_call (by have := ok_any a9 N c9 X q.W (hfx.below q.h (Nat.le_refl _)) hNl2 hc9; rw [hvo] at this; exact this)
                  have cv : Hid (∀ q : Kp w7, Calls Try.prog 23 #[.agg #[.int .i64 X.lg, .slice a9 N c9, .int .u64 X.fl, .int .u64 X.ct, .int .u64 X.at9, .int .u64 X.ls]] q.W fun e w'' => e = .returned (.bool vo) ∧ ∃ q' : Kp w7, w'' = q'.W) := hide fun q => kp_call (by have := viewok_any a9 N c9 X q.W (hfx.below q.h (Nat.le_refl _)) hNl2; rw [hvo] at this; exact this)
                  have hne : Nonempty (Kp w7) := ⟨⟨_, Below.refl _ _⟩⟩
                  have hvv : (vo != vo) = false := by cases vo <;> rfl
                  clear hsv hk9 ho9 hfx hvo HYC HYO HX HO HX1 HWX HN HNV HAP HEG HS HLL SA6 KP6 KQ6 HOP6 HOQ6
                  go_wp2_with fail
                  refine wp_region_kept (by kernel_rfl) (by kernel_rfl) ?_
                  repeat (first
                    | go_big_quiet_step (first | (go_at_call 22; exact co.out _) | (go_at_call 23; exact cv.out _))
                    | fail)
                  refine wpQuiet_nil ?_
                  intro w10 hw'
                  have hb10 : Below w7.heap.size w7 w10 := by
                    obtain ⟨⟨w3', hb3⟩, hw''⟩ := hw'
                    rw [hw'']; exact hb3
                  have HB10 := hide hb10
                  clear hw' hne co cv hb10 pq0 pq1 pq2 pq3 pq4 pq5
                  go_wp2
                  go_roundw
                  case rel => exact ⟨i + 1, S', by omega, by omega, by go_num, rfl, hide (HSV.out.more HB10.out)⟩
                  case measure => simp [intOf]; omega
      | false =>
        obtain ⟨w0, hw0⟩ : ∃ x, x = wr := ⟨_, rfl⟩
        subst hw0
        have hell := el_len l HEG.out
        have hll := HLL.out
        obtain ⟨L, hL⟩ : ∃ n, (el l).length = n := ⟨_, rfl⟩
        have hLb : L ≤ 26240 := by omega
        obtain ⟨cp, w5, hcv, hcpl, hb5, hrm⟩ := rm_str w0 (el l) (el_range l HEG.out) (by rw [hL]; unfold maxLen; omega)
        rw [← HS.out, hL] at hcv
        rw [hL] at hcpl
        have hcpm : cp ≤ 9223372036854775807 := by have := hrm.out.max; unfold maxLen at this; omega
        obtain ⟨g, hg⟩ : ∃ g, w0.heap.size = g := ⟨_, rfl⟩
        have HGW := hide hg
        rw [hg] at hcv hrm
        have HL := hide hL
        have HB5 := hide hb5.out
        have HRM := hide hrm.out
        have HSA := hide (fun W (hW : Below w0.heap.size w0 W) => SA.out.keep hW)
        clear hg hb5 hrm hell hll hL hq hsa HS HLL HE
        go_wp2_with fail
        go_loopw [17, 18] (fun s t wx => ∃ (i nn : Nat), t = .int .i64 i ∧ i ≤ 2 ∧ s = .slice (some ⟨g, 0, none⟩) nn cp ∧ nn ≤ 26240 ∧ Hid (∃ Y, Rm wx g cp Y ∧ nn ≤ Y.length ∧ (i = 0 → Y = el l ∧ nn = Y.length)) ∧ Hid (Below w0.heap.size w0 wx)) (fun _ t _ => 2 - (intOf t).toNat)
        case atStart => exact ⟨0, L, rfl, by omega, rfl, hLb, hide ⟨el l, HRM.out, by rw [HL.out]; omega, fun _ => ⟨rfl, HL.out.symm⟩⟩, HB5⟩
        case round =>
          obtain ⟨i, nn, rfl, hi, rfl, hnn, hY, hbx⟩ := hrel
          by_cases h2 : i < 2
          · have q2 : (i : Int) < 2 := by omega
            obtain ⟨wx, hwx⟩ : ∃ x, x = wr := ⟨_, rfl⟩
            subst hwx
            go_upto_region 21 with fail
            go_cut [112] from 102 to 175 (fun s112 wz => ∃ q : Bool, s112 = .bool q ∧ (q = true → i = 1 ∧ 0 < nn) ∧ wx = wz)
            case first =>
              clear hY hbx HSA HRM HB5 HAP HEG HA SA
              by_cases h1 : i = 1
              · subst h1
                by_cases h0 : 0 < nn
                · have q0 : (0 : Int) < (nn : Int) := by omega
                  go_wp2_with fail
                  go_meet
                  case rel => exact ⟨true, rfl, fun _ => ⟨by first | trivial | rfl, h0⟩, rfl⟩
                · have q0 : ¬ (0 : Int) < (nn : Int) := by omega
                  go_wp2_with fail
                  go_meet
                  case rel => exact ⟨false, rfl, fun e => (by cases e), rfl⟩
              · have q0 : ((i : Int) == 1) = false := by simp; omega
                go_wp2_with fail
                go_meet
                case rel => exact ⟨false, rfl, fun e => (by cases e), rfl⟩
            case rest =>
              obtain ⟨q, rfl, hqq, hwz⟩ := hcut
              subst hwz
              go_upto_if 112 with fail
              go_cut [17] from 102 to 175 (fun s17 wz => ∃ mm : Nat, s17 = .slice (some ⟨g, 0, none⟩) mm cp ∧ mm ≤ 26240 ∧ Hid (∃ Y, Rm wz g cp Y ∧ mm ≤ Y.length ∧ (i = 0 → Y = el l ∧ mm = Y.length)) ∧ Hid (Below w0.heap.size w0 wz))
              case first =>
                cases q with
                | false =>
                  go_wp2_with fail
                  go_meet
                  case rel => exact ⟨nn, rfl, hnn, hY, hbx⟩
                | true =>
                  obtain ⟨rfl, hn0⟩ := hqq rfl
                  obtain ⟨Y, hrm, hnY, _⟩ := hY.out
                  obtain ⟨p, hp1, hp⟩ := place_of t1 16777215 (by decide) (nn : Int) nn rfl hn0
                  obtain ⟨y, hy1, hy⟩ := place_of t3 65535 (by decide) ((nn : Int) + 1) (nn + 1) (by omega) (by omega)
                  replace hp1 : (bits BinOp.and IntKind.i64 t1 16777215).tmod (nn : Int) = (p : Int) := hp1
                  replace hy1 : (bits BinOp.and IntKind.i64 t3 65535).tmod ((nn : Int) + 1) = (y : Int) := hy1
                  have hle := hrm.le
                  have cP := hrm.cell p (by omega)
                  have fP := hrm.free p (by omega)
                  have hxr := xor_range (Y.getD p 0) t2
                  have RM6 := hide (hrm.set p (by omega) _ hxr)
                  have hbg := hide (hbx.out.grown (fgb_set wx ⟨g, p, none⟩ (.int .u8 (bits BinOp.xor IntKind.u8 (Y.getD p 0) t2))) hbx.out.size (fun k hk => by have : g = k := Option.some.inj hk; have := HGW.out; omega))
                  have hsub : wrap64 ((nn : Int) - (y : Int)) = ((nn - y : Nat) : Int) := by unfold wrap64; omega
                  have hsub2 : IntKind.i64.wrap ((nn : Int) - (y : Int)) = ((nn - y : Nat) : Int) := by simp [IntKind.wrap, IntKind.bits, IntKind.signed]; omega
                  have hsub3 : IntKind.i64.wrap ((nn : Int) + 1) = (nn : Int) + 1 := by simp [IntKind.wrap, IntKind.bits, IntKind.signed]; omega
                  have hz1 : ((nn - y : Nat) : Int) ≤ (cp : Int) := by omega
                  have hcz : cut (some ⟨g, 0, none⟩) cp 0 = some ⟨g, 0, none⟩ := by unfold cut; split <;> rfl
                  have hpi : (p : Int) < (nn : Int) := by omega
                  have HYL := hide (show nn - y ≤ (Y.set p (bits BinOp.xor IntKind.u8 (Y.getD p 0) t2)).length from by rw [List.length_set]; omega)
                  generalize Y.set p (bits BinOp.xor IntKind.u8 (Y.getD p 0) t2) = Y6 at *
                  generalize Y.getD p 0 = z0 at *
                  clear hrm hxr hY hle hnY
                  go_wp2_with fail
                  go_meet
                  case rel => exact ⟨nn - y, rfl, by omega, hide ⟨Y6, RM6.out, HYL.out, fun e => (by cases e)⟩, hbg⟩
              case rest =>
                obtain ⟨mm, rfl, hmm, hY2, hbz⟩ := hcut
                obtain ⟨wz, hwz⟩ : ∃ x, x = wc := ⟨_, rfl⟩
                subst hwz
                obtain ⟨Y, hrm, hmY, hY0⟩ := hY2.out
                have HRm := hide hrm
                obtain ⟨X, hX⟩ : ∃ X, Y.take mm = X := ⟨_, rfl⟩
                have hbs := rm_part hrm mm hmY
                rw [hX] at hbs
                have HXR := hide (bs_range hbs)
                have HXL := hide hbs.1
                have CR := hide (ereplay_any (some ⟨g, 0, none⟩) mm cp X wz (by omega) hbs)
                have HBS := hide (fun W (hW : Below wz.heap.size wz W) => hbs.below hW (Nat.le_refl _))
                have HRP := hide (show i = 0 → rpE X = if l.length = 0 then none else some (V, (el l).length) from fun e => by
                  obtain ⟨e1, e2⟩ := hY0 e
                  rw [← hX, e1, e2, e1, List.take_length]
                  exact rpE_all HEG.out HAP.out)
                have HY0 := hide hY0
                clear hrm hbs hX hY2 hY hbx hqq HRM HB5 hY0
                go_wp2_with fail
                refine CR.out.mono ?_
                rintro e y1 hr1
                obtain ⟨a1, c1, V1, n1, k1, hV1, hk1, rfl, hf1, hc1, hb1⟩ := rpa_form hr1
                obtain ⟨N1, hN1⟩ : ∃ n, V1.f.length = n := ⟨_, rfl⟩
                rw [hN1] at hf1 ⊢
                have A1 := (Below.refl _ y1).alloc (Nat.le_refl _) (Obj.cells #[.int .i64 V1.lg, .slice a1 N1 c1, .int .u64 V1.fl, .int .u64 V1.ct, .int .u64 V1.at9, .int .u64 V1.ls] 26)
                have hcv2 := conv_bs (HBS.out _ (hb1.trans (A1.mono hb1.size)))
                have CD := hide (refreplay_any X (y1.alloc (Obj.cells #[.int .i64 V1.lg, .slice a1 N1 c1, .int .u64 V1.fl, .int .u64 V1.ct, .int .u64 V1.at9, .int .u64 V1.ls] 26)) (by have := HXL.out; omega) HXR.out)
                have K1 := hide (ek_new y1 #[.int .i64 V1.lg, .slice a1 N1 c1, .int .u64 V1.fl, .int .u64 V1.ct, .int .u64 V1.at9, .int .u64 V1.ls] 26)
                have F1 := hide (hf1.below A1 (Nat.le_refl _))
                have HB1 := hide (hb1.trans (A1.mono hb1.size))
                have HV1 := hide hV1
                have HK1 := hide hk1
                have HN1 := hide hN1
                have hl1 : y1.heap.size < (y1.alloc (Obj.cells #[.int .i64 V1.lg, .slice a1 N1 c1, .int .u64 V1.fl, .int .u64 V1.ct, .int .u64 V1.at9, .int .u64 V1.ls] 26)).heap.size := by simp
                generalize strOfNums X = SX at *
                unfold vwV
                clear hr1 hV1 hk1 hf1 hb1 A1 CR hN1
                go_wp2_with fail
                refine CD.out.mono ?_
                rintro e y3 hr3
                obtain ⟨a3, c3, V3, n3, k3, hV3, hk3, rfl, hf3, hc3, hb3⟩ := rpa_form hr3
                have hvv := hV3.symm.trans HV1.out
                injection hvv with hv1 hv2
                subst hv1 hv2
                obtain rfl : k3 = k1 := hk3.trans HK1.out.symm
                rw [HN1.out] at hf3 ⊢
                have A3 := (Below.refl _ y3).alloc (Nat.le_refl _) (Obj.cells #[.int .i64 V3.lg, .slice a3 N1 c3, .int .u64 V3.fl, .int .u64 V3.ct, .int .u64 V3.at9, .int .u64 V3.ls] 26)
                have hb4 := hb3.trans (A3.mono hb3.size)
                have k1' := K1.out.below hb4 K1.out.lt
                have k3' := ek_new y3 #[.int .i64 V3.lg, .slice a3 N1 c3, .int .u64 V3.fl, .int .u64 V3.ct, .int .u64 V3.at9, .int .u64 V3.ls] 26
                have HB9 := hide (HB1.out.trans (hb4.mono HB1.out.size))
                have HF1 := hide (F1.out.below hb4 (Nat.le_refl _))
                have HF3 := hide (hf3.below A3 (Nat.le_refl _))
                have hnl := HF1.out.2.1.1
                have CS := hide (sameV_true rfl HF1.out HF3.out (by omega) (by omega))
                have KK1 := hide k1'
                have ce0 : (y3.alloc (Obj.cells #[.int .i64 V3.lg, .slice a3 N1 c3, .int .u64 V3.fl, .int .u64 V3.ct, .int .u64 V3.at9, .int .u64 V3.ls] 26)).cell? ⟨y1.heap.size, 0, none⟩ = some (.int .i64 V3.lg) := (k1').cell rfl
                have ce1 : (y3.alloc (Obj.cells #[.int .i64 V3.lg, .slice a3 N1 c3, .int .u64 V3.fl, .int .u64 V3.ct, .int .u64 V3.at9, .int .u64 V3.ls] 26)).cell? ⟨y1.heap.size, 1, none⟩ = some (.slice a1 N1 c1) := (k1').cell rfl
                have ce2 : (y3.alloc (Obj.cells #[.int .i64 V3.lg, .slice a3 N1 c3, .int .u64 V3.fl, .int .u64 V3.ct, .int .u64 V3.at9, .int .u64 V3.ls] 26)).cell? ⟨y1.heap.size, 2, none⟩ = some (.int .u64 V3.fl) := (k1').cell rfl
                have ce3 : (y3.alloc (Obj.cells #[.int .i64 V3.lg, .slice a3 N1 c3, .int .u64 V3.fl, .int .u64 V3.ct, .int .u64 V3.at9, .int .u64 V3.ls] 26)).cell? ⟨y1.heap.size, 3, none⟩ = some (.int .u64 V3.ct) := (k1').cell rfl
                have ce4 : (y3.alloc (Obj.cells #[.int .i64 V3.lg, .slice a3 N1 c3, .int .u64 V3.fl, .int .u64 V3.ct, .int .u64 V3.at9, .int .u64 V3.ls] 26)).cell? ⟨y1.heap.size, 4, none⟩ = some (.int .u64 V3.at9) := (k1').cell rfl
                have ce5 : (y3.alloc (Obj.cells #[.int .i64 V3.lg, .slice a3 N1 c3, .int .u64 V3.fl, .int .u64 V3.ct, .int .u64 V3.at9, .int .u64 V3.ls] 26)).cell? ⟨y1.heap.size, 5, none⟩ = some (.int .u64 V3.ls) := (k1').cell rfl
                have cf0 : (y3.alloc (Obj.cells #[.int .i64 V3.lg, .slice a3 N1 c3, .int .u64 V3.fl, .int .u64 V3.ct, .int .u64 V3.at9, .int .u64 V3.ls] 26)).cell? ⟨y3.heap.size, 0, none⟩ = some (.int .i64 V3.lg) := (k3').cell rfl
                have cf1 : (y3.alloc (Obj.cells #[.int .i64 V3.lg, .slice a3 N1 c3, .int .u64 V3.fl, .int .u64 V3.ct, .int .u64 V3.at9, .int .u64 V3.ls] 26)).cell? ⟨y3.heap.size, 1, none⟩ = some (.slice a3 N1 c3) := (k3').cell rfl
                have cf2 : (y3.alloc (Obj.cells #[.int .i64 V3.lg, .slice a3 N1 c3, .int .u64 V3.fl, .int .u64 V3.ct, .int .u64 V3.at9, .int .u64 V3.ls] 26)).cell? ⟨y3.heap.size, 2, none⟩ = some (.int .u64 V3.fl) := (k3').cell rfl
                have cf3 : (y3.alloc (Obj.cells #[.int .i64 V3.lg, .slice a3 N1 c3, .int .u64 V3.fl, .int .u64 V3.ct, .int .u64 V3.at9, .int .u64 V3.ls] 26)).cell? ⟨y3.heap.size, 3, none⟩ = some (.int .u64 V3.ct) := (k3').cell rfl
                have cf4 : (y3.alloc (Obj.cells #[.int .i64 V3.lg, .slice a3 N1 c3, .int .u64 V3.fl, .int .u64 V3.ct, .int .u64 V3.at9, .int .u64 V3.ls] 26)).cell? ⟨y3.heap.size, 4, none⟩ = some (.int .u64 V3.at9) := (k3').cell rfl
                have cf5 : (y3.alloc (Obj.cells #[.int .i64 V3.lg, .slice a3 N1 c3, .int .u64 V3.fl, .int .u64 V3.ct, .int .u64 V3.at9, .int .u64 V3.ls] 26)).cell? ⟨y3.heap.size, 5, none⟩ = some (.int .u64 V3.ls) := (k3').cell rfl
                have hl9 := k1'.lt
                have hl8 := k3'.lt
                have hnn1 : ((n3 : Int) != (n3 : Int)) = false := by simp
                have hkk1 : (k3 != k3) = false := by simp
                unfold vwV
                unfold vwV at CS
                clear hr3 hV3 hk3 hf3 hb3 A3 hb4 k1' k3' CD K1 F1 HB1 HF3 hcv2
                go_wp2_with fail
                generalize hw9 : y3.alloc (Obj.cells #[.int .i64 V3.lg, .slice a3 N1 c3, .int .u64 V3.fl, .int .u64 V3.ct, .int .u64 V3.at9, .int .u64 V3.ls] 26) = w9 at *
                clear hw9
                refine CS.out.mono ?_
                rintro e w10 ⟨rfl, hb10⟩
                clear ce0 ce1 ce2 ce3 ce4 ce5 cf0 cf1 cf2 cf3 cf4 cf5 CS
                have HB10 := hide (hbz.out.trans ((HB9.out.trans (hb10.mono HB9.out.size)).mono hbz.out.size))
                have HBz := hide (HB9.out.trans (hb10.mono HB9.out.size))
                have SA10 := hide (HSA.out w10 HB10.out)
                by_cases hi0 : i = 0
                · have q0 : ((i : Int) == 0) = true := by simp [hi0]
                  by_cases hk0 : k3 = 0
                  · have qk : (k3 == 0) = true := by simp [hk0]
                    have hVV : V3 = V := by
                      have h1 := HRP.out hi0
                      have h2 := HK1.out
                      have h3 := HV1.out
                      rw [h1] at h2 h3
                      by_cases hl0 : l.length = 0
                      · rw [if_pos hl0, hk0] at h2
                        cases h2
                      · rw [if_neg hl0] at h3
                        have := congrArg Prod.fst h3
                        exact this.symm
                    subst hVV
                    have hk10 := KK1.out.below hb10 KK1.out.lt
                    have hu10 := SA10.out.u
                    have hfu := (ownF_fsN SA10.out.fu SA10.out.wf rfl).2
                    rw [HN1.out] at hfu
                    have CT := hide (sameV_true rfl (HF1.out.below hb10 (Nat.le_refl _)) hfu (by omega) (by omega))
                    have ce0 : w10.cell? ⟨y1.heap.size, 0, none⟩ = some (.int .i64 V3.lg) := (hk10).cell rfl
                    have ce1 : w10.cell? ⟨y1.heap.size, 1, none⟩ = some (.slice a1 N1 c1) := (hk10).cell rfl
                    have ce2 : w10.cell? ⟨y1.heap.size, 2, none⟩ = some (.int .u64 V3.fl) := (hk10).cell rfl
                    have ce3 : w10.cell? ⟨y1.heap.size, 3, none⟩ = some (.int .u64 V3.ct) := (hk10).cell rfl
                    have ce4 : w10.cell? ⟨y1.heap.size, 4, none⟩ = some (.int .u64 V3.at9) := (hk10).cell rfl
                    have ce5 : w10.cell? ⟨y1.heap.size, 5, none⟩ = some (.int .u64 V3.ls) := (hk10).cell rfl
                    have cg0 : w10.cell? ⟨w.heap.size + 1, 0, none⟩ = some (.int .i64 V3.lg) := (hu10).cell rfl
                    have cg1 : w10.cell? ⟨w.heap.size + 1, 1, none⟩ = some (.slice aw V3.f.length cw) := (hu10).cell rfl
                    have cg2 : w10.cell? ⟨w.heap.size + 1, 2, none⟩ = some (.int .u64 V3.fl) := (hu10).cell rfl
                    have cg3 : w10.cell? ⟨w.heap.size + 1, 3, none⟩ = some (.int .u64 V3.ct) := (hu10).cell rfl
                    have cg4 : w10.cell? ⟨w.heap.size + 1, 4, none⟩ = some (.int .u64 V3.at9) := (hu10).cell rfl
                    have cg5 : w10.cell? ⟨w.heap.size + 1, 5, none⟩ = some (.int .u64 V3.ls) := (hu10).cell rfl
                    have hl11 := hk10.lt
                    have hl12 := hu10.lt
                    rw [HN1.out] at cg1
                    unfold vwV at CT
                    clear hk10 hu10 hfu hb10 HRP HK1 HV1 hi0 hk0
                    go_wp2_with fail
                    refine CT.out.mono ?_
                    rintro e w11 ⟨rfl, hb11⟩
                    have HB11 := hide (HB10.out.trans (hb11.mono HB10.out.size))
                    have HR11 := hide (HRm.out.keepB (HBz.out.trans (hb11.mono HBz.out.size)))
                    clear CT hb11 ce0 ce1 ce2 ce3 ce4 ce5 cg0 cg1 cg2 cg3 cg4 cg5
                    go_wp2
                    go_roundw
                    case rel => exact ⟨i + 1, mm, by go_num, by omega, rfl, hmm, hide ⟨Y, HR11.out, hmY, fun e => absurd e (by omega)⟩, HB11⟩
                    case measure => simp [intOf]; omega
                  · have qk : (k3 == 0) = false := by simp [hk0]
                    have HR11 := hide (HRm.out.keepB HBz.out)
                    clear hb10 HRP HK1 HV1 hi0 hk0
                    go_wp2
                    go_roundw
                    case rel => exact ⟨i + 1, mm, by go_num, by omega, rfl, hmm, hide ⟨Y, HR11.out, hmY, fun e => absurd e (by omega)⟩, HB10⟩
                    case measure => simp [intOf]; omega
                · have q0 : ((i : Int) == 0) = false := by simp [hi0]
                  have HR11 := hide (HRm.out.keepB HBz.out)
                  clear hb10 HRP HK1 HV1 hi0
                  go_wp2
                  go_roundw
                  case rel => exact ⟨i + 1, mm, by go_num, by omega, rfl, hmm, hide ⟨Y, HR11.out, hmY, fun e => absurd e (by omega)⟩, HB10⟩
                  case measure => simp [intOf]; omega
          · obtain rfl : i = 2 := by omega
            go_wp2_with (go_at_call 13; refine (HA.out _).mono ?_; rintro e w9 ⟨rfl, hb9⟩)
            go_ret
            have hb0 := SA.out.bel
            have hb1 := hb0.trans (hbx.out.mono hb0.size)
            exact ⟨rfl, hb1.trans (hb9.mono hb1.size)⟩
end

end Go.Proofs.Ytgopcaemgcnapaa.Clep
