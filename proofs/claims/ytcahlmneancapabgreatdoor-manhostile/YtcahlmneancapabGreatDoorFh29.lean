/- What the statements' own edits does when called (a walk over the translated program): for any row of Edits. No conditions. Written by wip/tools/gen16eds.py. -/
import Derived.Test.YtcahlmneancapabGreatDoorFh26
import Derived.Test.YtcahlmneancapabGreatDoorFh13
import Derived.Test.YtcahlmneancapabGreatDoorFh28
import Derived.Test.YtcahlmneancapabGreatDoorFh01
import Derived.BigRegion
import Derived.Deep.CutRange
import Derived.Test.YtcahlmneancapabGreatDoorFh27
import Derived.Test.YtcahlmneancapabGreatDoorFh19
import Derived.Deep.CutBlock
import Derived.Deep.RegionWith
import Derived.Test.YtcahlmneancapabGreatDoorFh00
namespace Go.Proofs.YtcahlmneancapabGreatDoor.Clep
open Go.RowKit
set_option linter.unusedVariables false
set_option maxRecDepth 10000

def onevr : Vr := ⟨oneV, none, 0⟩
theorem cg_start (w : World) : Cg w ((w.alloc (Obj.cells #[.int .i64 1, .slice none 0 0, .int .u64 0, .int .u64 0, .int .u64 0, .int .u64 0] 35)).alloc (Obj.cells #[.int .i64 1, .slice none 0 0, .int .u64 0, .int .u64 0, .int .u64 0, .int .u64 0] 35)) (.slice (some ⟨w.heap.size + 1, 0, none⟩) 1 1) (.slice none 0 0) onevr [onevr] 40 7 0 [] := by
  have A0 := (Below.refl w.heap.size w).alloc (Nat.le_refl _) (Obj.cells #[.int .i64 1, .slice none 0 0, .int .u64 0, .int .u64 0, .int .u64 0, .int .u64 0] 35)
  have A1 := A0.alloc A0.size (Obj.cells #[.int .i64 1, .slice none 0 0, .int .u64 0, .int .u64 0, .int .u64 0, .int .u64 0] 35)
  have B1 := (Below.refl _ (w.alloc (Obj.cells #[.int .i64 1, .slice none 0 0, .int .u64 0, .int .u64 0, .int .u64 0, .int .u64 0] 35))).alloc (Nat.le_refl _) (Obj.cells #[.int .i64 1, .slice none 0 0, .int .u64 0, .int .u64 0, .int .u64 0, .int .u64 0] 35)
  have k0 := (ek_new w #[.int .i64 1, .slice none 0 0, .int .u64 0, .int .u64 0, .int .u64 0, .int .u64 0] 35).below B1 (by simp)
  have k1 := (fhpS (w.alloc (Obj.cells #[.int .i64 1, .slice none 0 0, .int .u64 0, .int .u64 0, .int .u64 0, .int .u64 0] 35)) (Obj.cells #[.int .i64 1, .slice none 0 0, .int .u64 0, .int .u64 0, .int .u64 0, .int .u64 0] 35) (w.heap.size + 1) (by simp))
  refine ⟨k0, own_one k1 (Nat.le_refl _) rfl, World.ownsRow_nil _ _ _ _, .inr (by simp [Value.ownBlock]), fun y hy => ?_, fun y hy p e => ?_, A1, by simp⟩
  · have : y = onevr := by rcases hy with e | e; exact e; exact List.mem_singleton.1 e
    subst this
    exact ⟨fs_nil _, by decide⟩
  · have : y = onevr := by rcases hy with e | e; exact e; exact List.mem_singleton.1 e
    subst this
    cases e
theorem cq_start : Cq [] [onevr] onevr := ⟨rfl, fun k y hk => by
  cases k with
  | zero => simp at hk; rw [← hk]; rfl
  | succ k => simp at hk, rfl, by simp⟩
theorem vok_wf9 {V : Vw} (h : vok V = true) : ∀ x ∈ V.f, x.wf := fun x hx => by
  have := List.all_eq_true.1 (vok_parts2 h).2.1 x hx
  unfold Fi.ok at this
  have h9 := of_decide_eq_true this
  unfold Fi.wf
  omega
/-- What edits holds between its rounds. -/
def EdL (ls : List Er) (w W : World) (v6 v7 : Value) (i : Nat) : Prop := ∃ vs gs x, Cg w W v6 v7 x vs 40 7 gs.length (ecs gs) ∧ Cq gs vs x ∧ (∀ y ∈ gs, y ∈ ls) ∧ gs.length ≤ i

set_option maxHeartbeats 8000000 in
theorem edits_any (ao : Option Addr) (len cap : Nat) (ls : List Er) (w : World) (h : ∀ W, Below w.heap.size w W → Es W ao len cap ls) (hlen : len ≤ 9223372036854775807) :
    Calls Tryz.prog 5 #[.slice ao len cap] w (EdA ls w) := by
  have HE := hide h
  clear h
  have S0 := hide (cg_start w)
  go_enter Tryz.func5, Tryz.ntmps5
  go_wp2_with fail
  generalize (w.alloc (Obj.cells #[.int .i64 1, .slice none 0 0, .int .u64 0, .int .u64 0, .int .u64 0, .int .u64 0] 35)).alloc (Obj.cells #[.int .i64 1, .slice none 0 0, .int .u64 0, .int .u64 0, .int .u64 0, .int .u64 0] 35) = wa at *
  go_loopw [6, 7, 8] (fun s6 s7 t wr => ∃ i : Nat, i ≤ len ∧ i ≤ 45 ∧ t = .int .i64 i ∧ Hid (EdL ls w wr s6 s7 i)) (fun _ _ t _ => 45 - (intOf t).toNat)
  case atStart => exact ⟨0, by omega, by omega, rfl, hide ⟨[onevr], [], onevr, S0.out, cq_start, by simp, by simp⟩⟩
  case round =>
    obtain ⟨i, hi, hi45, rfl, hst⟩ := hrel
    clear S0
    obtain ⟨wr', hwr⟩ : ∃ x, x = wr := ⟨_, rfl⟩
    subst hwr
    go_upto_region 5 with fail
    go_cut [21] from 14 to 59 (fun s21 wx => s21 = .bool (decide (i < len ∧ i < 45)) ∧ wr' = wx)
    case first =>
      clear hst HE
      by_cases hlt : i < len
      · have q1 : (i : Int) < (len : Int) := by omega
        by_cases hl2 : i < 45
        · have q2 : (i : Int) < 45 := by omega
          go_wp2_with fail
          go_meet
          case rel => exact ⟨by simp [hlt, hl2], rfl⟩
        · have q2 : ¬ (i : Int) < 45 := by omega
          go_wp2_with fail
          go_meet
          case rel => exact ⟨by simp [hl2], rfl⟩
      · have q1 : ¬ ((i : Int) < (len : Int)) := by omega
        go_wp2_with fail
        go_meet
        case rel => exact ⟨by simp [hlt], rfl⟩
    case rest =>
      obtain ⟨rfl, hwc⟩ := hcut
      obtain ⟨wr, hwr⟩ : ∃ x, x = wr' := ⟨_, rfl⟩
      subst hwr
      subst hwc
      obtain ⟨q, hq⟩ : ∃ q, decide (i < len ∧ i < 45) = q := ⟨_, rfl⟩
      rw [hq]
      obtain ⟨vs, gs, ⟨V, av, cv⟩, hcg, hcq, hgs, hgl⟩ := hst.out
      have CG := hide hcg
      have CQ := hide hcq
      have HGS := hide hgs
      have HGL := hide hgl
      have hvk := apE_vok _ _ _ hcq.last vok_one
      clear hst hcq hgs hgl
      cases q with
      | true =>
        obtain ⟨hl1, hl2⟩ := of_decide_eq_true hq
        obtain ⟨y, b, off, hy, rfl, hyo, c0, c1, c2, c3, c4, c5, c6⟩ := es_at (HE.out wr hcg.bel) i hl1
        have HYO := hide hyo
        have HY := hide hy
        have hdn := hyo.1.2
        have han := hyo.2.1.2
        have q1 : (i : Int) < (len : Int) := by omega
        obtain ⟨NV, hNV⟩ : ∃ n, V.f.length = n := ⟨_, rfl⟩
        have HNV := hide hNV
        have CF := hide (fun W => few_any y.da y.aa y.dn y.dc y.an y.ac y.E W hdn han)
        unfold edV at CF
        obtain ⟨of, hof⟩ : ∃ o, decide (y.dn ≤ 60 ∧ y.an ≤ 60) = o := ⟨_, rfl⟩
        rw [hof] at CF
        have HYL := hide (show of = true → y.dn ≤ 60 ∧ y.an ≤ 60 from fun e => of_decide_eq_true (hof.trans e))
        have HYC := hide (fun W (hW : Below wr.heap.size wr W) => And.intro ((hW.cell (p := ⟨b, off + i * 7, none⟩) (World.block_lt_of_cell? wr _ c0)).trans c0) ( And.intro ((hW.cell (p := ⟨b, off + i * 7 + 1, none⟩) (World.block_lt_of_cell? wr _ c1)).trans c1) ( And.intro ((hW.cell (p := ⟨b, off + i * 7 + 2, none⟩) (World.block_lt_of_cell? wr _ c2)).trans c2) ( And.intro ((hW.cell (p := ⟨b, off + i * 7 + 3, none⟩) (World.block_lt_of_cell? wr _ c3)).trans c3) ( And.intro ((hW.cell (p := ⟨b, off + i * 7 + 4, none⟩) (World.block_lt_of_cell? wr _ c4)).trans c4) ( And.intro ((hW.cell (p := ⟨b, off + i * 7 + 5, none⟩) (World.block_lt_of_cell? wr _ c5)).trans c5) ( ((hW.cell (p := ⟨b, off + i * 7 + 6, none⟩) (World.block_lt_of_cell? wr _ c6)).trans c6))))))))
        have hvl := hcg.z.lt
        have hbl : b < wr.heap.size := World.block_lt_of_cell? wr _ c0
        have hfv := hcg.fs ⟨V, av, cv⟩ (.inl rfl)
        simp only at hfv
        rw [hNV] at hfv
        have HFV := hide hfv
        have hnv40 : NV ≤ 40 := by
          have h1 := (vok_parts2 hvk).1
          unfold vwH at h1
          have h2 := of_decide_eq_true h1
          simp only at h2
          omega
        clear hyo hy hof hdn han hcg hNV hq hfv
        go_wp2_with fail
        refine (CF.out _).mono ?_
        rintro e w1 ⟨rfl, hb1⟩
        have HB1 := hide hb1
        have hs01 := hb1.size
        clear hb1 CF c0 c1 c2 c3 c4 c5 c6
        cases of with
        | false =>
          clear HYL HYC
          go_wp2
          refine bodyPost_ret (by simp [results, Tryz.results5, go_sem]) rfl (show EdA ls w (.returned (.tuple #[.slice none 0 0, .slice none 0 0, .bool false])) w1 from ⟨CG.out.bel.trans (HB1.out.mono CG.out.bel.size), .inl rfl⟩)
        | true =>
          have hyl := HYL.out (by first | rfl | trivial)
          obtain ⟨X, hX⟩ : ∃ X, apv (appl V y.E) = X := ⟨_, rfl⟩
          obtain ⟨o, ho⟩ : ∃ o, (appl V y.E).isSome = o := ⟨_, rfl⟩
          obtain ⟨N, hN⟩ : ∃ n, X.f.length = n := ⟨_, rfl⟩
          have HX := hide hX
          have HO := hide ho
          have HN := hide hN
          have HX1 := hide (show o = true → appl V y.E = some X from fun e => by
            rw [← ho] at e
            rw [← hX]
            cases hr : appl V y.E with
            | none => rw [hr] at e; cases e
            | some U => rfl)
          clear hX ho hN HYL
          go_upto_region 9 with fail
          go_cut [9, 10] from 14 to 59 (fun s9 s10 wx => s10 = .bool o ∧ Hid (∃ p a c, s9 = .pointer (some ⟨p, 0, none⟩) ∧ w1.heap.size ≤ p ∧ Ek wx p #[.int .i64 X.lg, .slice a N c, .int .u64 X.fl, .int .u64 X.ct, .int .u64 X.at9, .int .u64 X.ls] 35 ∧ c ≤ 9223372036854775807 ∧ OwnF wx w1.heap.size (.slice a N c) X.f ∧ Below w1.heap.size w1 wx))
          case first =>
            have HVW := hide (show ∀ W, Below w1.heap.size w1 W → Ek W w.heap.size #[.int .i64 V.lg, .slice av NV cv, .int .u64 V.fl, .int .u64 V.ct, .int .u64 V.at9, .int .u64 V.ls] 35 from fun W hW => by have := (Ek.below (show Ek wr w.heap.size _ _ from CG.out.z) HB1.out CG.out.z.lt).below hW (Nat.lt_of_lt_of_le CG.out.z.lt HB1.out.size); unfold Vr.cs at this; simp only at this; rw [HNV.out] at this; exact this)
            have HYC := hide (fun W (hW : Below w1.heap.size w1 W) => HYC.out W (HB1.out.trans (hW.mono HB1.out.size)))
            have CA := hide (show ∀ W, Below w1.heap.size w1 W → Calls Tryz.prog 22 #[.agg #[.int .i64 V.lg, .slice av NV cv, .int .u64 V.fl, .int .u64 V.ct, .int .u64 V.at9, .int .u64 V.ls], .agg #[.slice y.da y.dn y.dc, .slice y.aa y.an y.ac, .int .i64 y.E.lg, .int .u64 y.E.fl, .int .u64 y.E.ct, .int .u64 y.E.at9, .int .u64 y.E.ls]] W fun e w' => ∃ a c, e = .returned (.tuple #[.agg #[.int .i64 X.lg, .slice a N c, .int .u64 X.fl, .int .u64 X.ct, .int .u64 X.at9, .int .u64 X.ls], .bool o]) ∧ c ≤ 9223372036854775807 ∧ OwnF w' W.heap.size (.slice a N c) X.f ∧ Below W.heap.size W w' from fun W hW => by
              have hW2 : Below wr.heap.size wr W := HB1.out.trans (hW.mono HB1.out.size)
              have hyo := HYO.out.below hW2 (Nat.le_refl _)
              have hfv := HFV.out.1.below hW2 (Nat.le_refl _)
              refine (refapply_any av y.da y.aa NV cv y.dn y.dc y.an y.ac V y.E W hfv hyo.1.1 hyo.2.1.1 (by omega) (by omega) (by omega)).mono fun e w' h => ?_
              obtain ⟨a, c, h1, h2, h3, h4, h5⟩ := apr_any h
              rw [HX.out, HO.out, HN.out] at h1
              rw [HX.out, HN.out] at h3
              exact ⟨a, c, h1, h2, h3, h5⟩)
            clear CG CQ HGS HGL HX HO HN HX1 HE
            refine region_si (PTh w1.heap.size (.agg #[.int .i64 V.lg, .slice av NV cv, .int .u64 V.fl, .int .u64 V.ct, .int .u64 V.at9, .int .u64 V.ls]) (some ⟨b, off, none⟩) len cap i b off (.agg #[.slice y.da y.dn y.dc, .slice y.aa y.an y.ac, .int .i64 y.E.lg, .int .u64 y.E.fl, .int .u64 y.E.ct, .int .u64 y.E.at9, .int .u64 y.E.ls]) N X o) (PG w1) (by kernel_rfl) (by kernel_rfl) (by kernel_rfl) ?start ?step ?fin
            case start => exact ⟨(Below.refl _ w1).drew, fun e => (by cases e)⟩
            case step =>
              intro L A W i_ hI hi hLi hw
              have hi2 : i_ < 12 := hi
              rcases (show i_ = 0 ∨ i_ = 1 ∨ i_ = 2 ∨ i_ = 3 ∨ i_ = 4 ∨ i_ = 5 ∨ i_ = 6 ∨ i_ = 7 ∨ i_ = 8 ∨ i_ = 9 ∨ i_ = 10 ∨ i_ = 11 by omega) with rfl | rfl | rfl | rfl | rfl | rfl | rfl | rfl | rfl | rfl | rfl | rfl
              · have e0 := hI.kept 5 _ (by decide +kernel) rfl
                have c0 : W.cell? ⟨w.heap.size, 0, none⟩ = some (.int .i64 V.lg) := (HVW.out W hI.g.1).cell rfl
                have c1 : W.cell? ⟨w.heap.size, 1, none⟩ = some (.slice av NV cv) := (HVW.out W hI.g.1).cell rfl
                have c2 : W.cell? ⟨w.heap.size, 2, none⟩ = some (.int .u64 V.fl) := (HVW.out W hI.g.1).cell rfl
                have c3 : W.cell? ⟨w.heap.size, 3, none⟩ = some (.int .u64 V.ct) := (HVW.out W hI.g.1).cell rfl
                have c4 : W.cell? ⟨w.heap.size, 4, none⟩ = some (.int .u64 V.at9) := (HVW.out W hI.g.1).cell rfl
                have c5 : W.cell? ⟨w.heap.size, 5, none⟩ = some (.int .u64 V.ls) := (HVW.out W hI.g.1).cell rfl
                refine hI.pure (by kernel_rfl) (by decide +kernel) (i := 0) (d := 31) rfl rfl rfl (v := .agg #[.int .i64 V.lg, .slice av NV cv, .int .u64 V.fl, .int .u64 V.ct, .int .u64 V.at9, .int .u64 V.ls]) (rfl) (fun j u _ _ h => pth_keep (upd10 (by decide)) (Below.refl _ _) j u h) (pg_upd 0 (by decide) hI.g) ?_
                intro K hKK
                go_simp
                exact hKK
              · have e0 := hI.kept 0 _ (by decide +kernel) rfl
                refine hI.pure (by kernel_rfl) (by decide +kernel) (i := 1) (d := 32) rfl rfl rfl (v := .slice (some ⟨b, off, none⟩) len cap) (rfl) (fun j u _ _ h => pth_keep (upd10 (by decide)) (Below.refl _ _) j u h) (pg_upd 1 (by decide) hI.g) ?_
                intro K hKK
                go_simp
                exact hKK
              · have e0 := hI.kept 8 _ (by decide +kernel) rfl
                refine hI.pure (by kernel_rfl) (by decide +kernel) (i := 2) (d := 33) rfl rfl rfl (v := .int .i64 (i : Int)) (rfl) (fun j u _ _ h => pth_keep (upd10 (by decide)) (Below.refl _ _) j u h) (pg_upd 2 (by decide) hI.g) ?_
                intro K hKK
                go_simp
                exact hKK
              · obtain ⟨_, e0, rfl⟩ := hI.val 1 32 (by decide +kernel) (hw 1 (by kernel_rfl)) (by kernel_rfl)
                obtain ⟨_, e1, rfl⟩ := hI.val 2 33 (by decide +kernel) (hw 2 (by kernel_rfl)) (by kernel_rfl)
                refine hI.pure (by kernel_rfl) (by decide +kernel) (i := 3) (d := 34) rfl rfl rfl (v := .pointer (some ⟨b, off + i * 7, none⟩)) (rfl) (fun j u _ _ h => pth_keep (upd10 (by decide)) (Below.refl _ _) j u h) (pg_upd 3 (by decide) hI.g) ?_
                intro K hKK
                go_simp
                exact hKK
              · obtain ⟨_, e0, rfl⟩ := hI.val 3 34 (by decide +kernel) (hw 3 (by kernel_rfl)) (by kernel_rfl)
                obtain ⟨c0, c1, c2, c3, c4, c5, c6⟩ := HYC.out W hI.g.1
                refine hI.pure (by kernel_rfl) (by decide +kernel) (i := 4) (d := 35) rfl rfl rfl (v := .agg #[.slice y.da y.dn y.dc, .slice y.aa y.an y.ac, .int .i64 y.E.lg, .int .u64 y.E.fl, .int .u64 y.E.ct, .int .u64 y.E.at9, .int .u64 y.E.ls]) (rfl) (fun j u _ _ h => pth_keep (upd10 (by decide)) (Below.refl _ _) j u h) (pg_upd 4 (by decide) hI.g) ?_
                intro K hKK
                go_simp
                exact hKK
              · obtain ⟨_, e0, rfl⟩ := hI.val 0 31 (by decide +kernel) (hw 0 (by kernel_rfl)) (by kernel_rfl)
                obtain ⟨_, e1, rfl⟩ := hI.val 4 35 (by decide +kernel) (hw 4 (by kernel_rfl)) (by kernel_rfl)
                have h10 := pg10 hI.g (i := 5) (by decide) (by decide) hLi
                refine hI.more (by kernel_rfl) (by decide +kernel) (i := 5) (d := 36) rfl rfl rfl ?_
                intro K hKK
                go_simp
                refine (CA.out W hI.g.1).mono ?_
                rintro e W' ⟨a', c', rfl, hc', ho', hb'⟩
                exact hKK _ _ ⟨a', c', rfl, hc', fun _ => ownF_base ho' hI.g.1.size⟩ (fun j u _ _ h => pth_keep (upd10 (by decide)) hb' j u h) (pg_upd 5 (by decide) (pg_below hI.g hb'))
              · obtain ⟨_, e0, a', c', rfl, hc', ho'⟩ := hI.val 5 36 (by decide +kernel) (hw 5 (by kernel_rfl)) (by kernel_rfl)
                refine hI.pure (by kernel_rfl) (by decide +kernel) (i := 6) (d := 30) rfl rfl rfl (v := .tuple #[.agg #[.int .i64 X.lg, .slice a' N c', .int .u64 X.fl, .int .u64 X.ct, .int .u64 X.at9, .int .u64 X.ls], .bool o]) (⟨a', c', rfl, hc', fun e => ho' ((upd10 (L := L) (i := 6) (by decide)).symm.trans e)⟩) (fun j u _ _ h => pth_keep (upd10 (by decide)) (Below.refl _ _) j u h) (pg_upd 6 (by decide) hI.g) ?_
                intro K hKK
                go_simp
                exact hKK
              · obtain ⟨_, e0, a', c', rfl, hc', ho'⟩ := hI.val 6 30 (by decide +kernel) (hw 6 (by kernel_rfl)) (by kernel_rfl)
                refine hI.pure (by kernel_rfl) (by decide +kernel) (i := 7) (d := 37) rfl rfl rfl (v := .agg #[.int .i64 X.lg, .slice a' N c', .int .u64 X.fl, .int .u64 X.ct, .int .u64 X.at9, .int .u64 X.ls]) (⟨a', c', rfl, hc', fun e => ho' ((upd10 (L := L) (i := 7) (by decide)).symm.trans e)⟩) (fun j u _ _ h => pth_keep (upd10 (by decide)) (Below.refl _ _) j u h) (pg_upd 7 (by decide) hI.g) ?_
                intro K hKK
                go_simp
                exact hKK
              · obtain ⟨_, e0, a', c', rfl, hc', ho'⟩ := hI.val 6 30 (by decide +kernel) (hw 6 (by kernel_rfl)) (by kernel_rfl)
                refine hI.pure (by kernel_rfl) (by decide +kernel) (i := 8) (d := 38) rfl rfl rfl (v := .bool o) (rfl) (fun j u _ _ h => pth_keep (upd10 (by decide)) (Below.refl _ _) j u h) (pg_upd 8 (by decide) hI.g) ?_
                intro K hKK
                go_simp
                exact hKK
              · have h10 := pg10 hI.g (i := 9) (by decide) (by decide) hLi
                refine hI.more (by kernel_rfl) (by decide +kernel) (i := 9) (d := 9) rfl rfl rfl ?_
                intro K hKK
                have A := (Below.refl _ W).alloc (Nat.le_refl _) (Obj.cells #[.int .i64 0, .slice none 0 0, .int .u64 0, .int .u64 0, .int .u64 0, .int .u64 0] 35)
                go_simp
                exact hKK _ _ ⟨W.heap.size, rfl, hI.g.1.size, fun _ => ek_new W _ _, fun e => (by rw [upd10 (by decide), h10] at e; cases e)⟩ (fun j u _ _ h => pth_keep (upd10 (by decide)) A j u h) (pg_upd 9 (by decide) (pg_below hI.g A))
              · obtain ⟨_, e0, a', c', rfl, hc', ho'⟩ := hI.val 7 37 (by decide +kernel) (hw 7 (by kernel_rfl)) (by kernel_rfl)
                obtain ⟨_, e1, p, rfl, hHp, hz, _⟩ := hI.val 9 9 (by decide +kernel) (hw 9 (by kernel_rfl)) (by kernel_rfl)
                have ho' := ho' hLi
                have hz := hz hLi
                refine hI.store (by decide +kernel) (i := 10) rfl rfl rfl ?_
                intro K hKK
                have z0 : W.cell? ⟨p, 0, none⟩ = some (.int .i64 0) := hz.cell rfl
                have y0 := hz.free 0
                have z1 : W.cell? ⟨p, 1, none⟩ = some (.slice none 0 0) := hz.cell rfl
                have y1 := hz.free 1
                have z2 : W.cell? ⟨p, 2, none⟩ = some (.int .u64 0) := hz.cell rfl
                have y2 := hz.free 2
                have z3 : W.cell? ⟨p, 3, none⟩ = some (.int .u64 0) := hz.cell rfl
                have y3 := hz.free 3
                have z4 : W.cell? ⟨p, 4, none⟩ = some (.int .u64 0) := hz.cell rfl
                have y4 := hz.free 4
                have z5 : W.cell? ⟨p, 5, none⟩ = some (.int .u64 0) := hz.cell rfl
                have y5 := hz.free 5
                have HZ := hide hz
                have HOW := hide ho'
                clear hz ho'
                go_simp
                have hg := egrow (k := 5) (u := .int .u64 X.ls) (egrow (k := 4) (u := .int .u64 X.at9) (egrow (k := 3) (u := .int .u64 X.ct) (egrow (k := 2) (u := .int .u64 X.fl) (egrow (k := 1) (u := .slice a' N c') (fgb_set W ⟨p, 0, none⟩ (.int .i64 X.lg))))))
                have hzz := (((((HZ.out.set 0 (.int .i64 X.lg)).set 1 (.slice a' N c')).set 2 (.int .u64 X.fl)).set 3 (.int .u64 X.ct)).set 4 (.int .u64 X.at9)).set 5 (.int .u64 X.ls)
                have how2 := ownF_far HOW.out hg (own_not_view HOW.out HZ.out)
                refine hKK _ (fun j e u _ _ hde hu h => pth_store (upd_same _ _) j u (fun hj => ?_) h) ⟨hI.g.1.grown hg hI.g.1.size (fun k hk => by cases hk; exact hHp), fun _ j hj h8 => upd_more (hw j (waits_but (k := 8) (by kernel_rfl) j hj h8))⟩
                subst hj
                have he : some e = some 9 := hde.symm.trans (by kernel_rfl)
                cases he
                rw [e1] at hu
                cases hu
                exact ⟨p, rfl, hHp, fun e => (by rw [upd_same] at e; cases e), fun _ => ⟨a', c', hzz, hc', how2⟩⟩
              · obtain ⟨_, e0, rfl⟩ := hI.val 8 38 (by decide +kernel) (hw 8 (by kernel_rfl)) (by kernel_rfl)
                refine hI.pure (by kernel_rfl) (by decide +kernel) (i := 11) (d := 10) rfl rfl rfl (v := .bool o) (rfl) (fun j u _ _ h => pth_keep (upd10 (by decide)) (Below.refl _ _) j u h) (pg_upd 11 (by decide) hI.g) ?_
                intro K hKK
                go_simp
                exact hKK
            case fin =>
              intro L A W hI hall
              obtain ⟨_, s0, rfl⟩ := hI.val 0 31 (by decide +kernel) (hall 0 (by decide +kernel)) (by kernel_rfl)
              obtain ⟨_, s1, rfl⟩ := hI.val 1 32 (by decide +kernel) (hall 1 (by decide +kernel)) (by kernel_rfl)
              obtain ⟨_, s2, rfl⟩ := hI.val 2 33 (by decide +kernel) (hall 2 (by decide +kernel)) (by kernel_rfl)
              obtain ⟨_, s3, rfl⟩ := hI.val 3 34 (by decide +kernel) (hall 3 (by decide +kernel)) (by kernel_rfl)
              obtain ⟨_, s4, rfl⟩ := hI.val 4 35 (by decide +kernel) (hall 4 (by decide +kernel)) (by kernel_rfl)
              obtain ⟨_, s5, aq, cq, rfl, _, _⟩ := hI.val 5 36 (by decide +kernel) (hall 5 (by decide +kernel)) (by kernel_rfl)
              obtain ⟨_, s6, ar, cr, rfl, _, _⟩ := hI.val 6 30 (by decide +kernel) (hall 6 (by decide +kernel)) (by kernel_rfl)
              obtain ⟨_, s7, ay, cy, rfl, _, _⟩ := hI.val 7 37 (by decide +kernel) (hall 7 (by decide +kernel)) (by kernel_rfl)
              obtain ⟨_, s8, rfl⟩ := hI.val 8 38 (by decide +kernel) (hall 8 (by decide +kernel)) (by kernel_rfl)
              obtain ⟨_, s9, p, rfl, hHp, _, hp2⟩ := hI.val 9 9 (by decide +kernel) (hall 9 (by decide +kernel)) (by kernel_rfl)
              obtain ⟨_, s11, rfl⟩ := hI.val 11 10 (by decide +kernel) (hall 11 (by decide +kernel)) (by kernel_rfl)
              have hfr := si_frame hI [(31, .agg #[.int .i64 V.lg, .slice av NV cv, .int .u64 V.fl, .int .u64 V.ct, .int .u64 V.at9, .int .u64 V.ls]), (32, .slice (some ⟨b, off, none⟩) len cap), (33, .int .i64 (i : Int)), (34, .pointer (some ⟨b, off + i * 7, none⟩)), (35, .agg #[.slice y.da y.dn y.dc, .slice y.aa y.an y.ac, .int .i64 y.E.lg, .int .u64 y.E.fl, .int .u64 y.E.ct, .int .u64 y.E.at9, .int .u64 y.E.ls]), (36, .tuple #[.agg #[.int .i64 X.lg, .slice aq N cq, .int .u64 X.fl, .int .u64 X.ct, .int .u64 X.at9, .int .u64 X.ls], .bool o]), (30, .tuple #[.agg #[.int .i64 X.lg, .slice ar N cr, .int .u64 X.fl, .int .u64 X.ct, .int .u64 X.at9, .int .u64 X.ls], .bool o]), (37, .agg #[.int .i64 X.lg, .slice ay N cy, .int .u64 X.fl, .int .u64 X.ct, .int .u64 X.at9, .int .u64 X.ls]), (38, .bool o), (9, .pointer (some ⟨p, 0, none⟩)), (10, .bool o)] (by kernel_rfl) (List.forall_mem_cons.2 ⟨s0, (List.forall_mem_cons.2 ⟨s1, (List.forall_mem_cons.2 ⟨s2, (List.forall_mem_cons.2 ⟨s3, (List.forall_mem_cons.2 ⟨s4, (List.forall_mem_cons.2 ⟨s5, (List.forall_mem_cons.2 ⟨s6, (List.forall_mem_cons.2 ⟨s7, (List.forall_mem_cons.2 ⟨s8, (List.forall_mem_cons.2 ⟨s9, (List.forall_mem_cons.2 ⟨s11, (by intro x hx; cases hx)⟩)⟩)⟩)⟩)⟩)⟩)⟩)⟩)⟩)⟩)⟩)
              obtain ⟨ax, cx, hekx, hcx, hox⟩ := hp2 (hall 10 (by decide +kernel))
              have hbx := hI.g.1
              rw [hfr]
              clear hfr hI hall hp2 s0 s1 s2 s3 s4 s5 s6 s7 s8 s9 s11
              simp only [List.foldl, List.setIfInBounds_toArray, List.set_cons_zero, List.set_cons_succ]
              go_wp2_with fail
              go_meet
              case rel => exact ⟨rfl, hide ⟨p, ax, cx, rfl, hHp, hekx, hcx, hox, hbx⟩⟩
          case rest =>
            obtain ⟨rfl, hvb⟩ := hcut
            obtain ⟨w2, hw2⟩ : ∃ x, x = wc := ⟨_, rfl⟩
            subst hw2
            obtain ⟨p, a, c, rfl, hp, hkp, hc, hop, hb2⟩ := hvb.out
            have HB2 := hide (HB1.out.trans (hb2.mono HB1.out.size))
            have KP := hide hkp
            have HOP := hide hop
            have hs12 := hb2.size
            clear hvb hkp hop hb2
            go_upto_region 10 with fail
            go_cut [47] from 14 to 59 (fun s47 wx => ∃ q : Bool, s47 = .bool q ∧ (q = true → o = true ∧ emay y.E = 0) ∧ Hid (Below w2.heap.size w2 wx))
            case first =>
              cases o with
              | false =>
                go_wp2_with fail
                go_meet
                case rel => exact ⟨false, rfl, fun e => (by cases e), hide (Below.refl _ _)⟩
              | true =>
                obtain ⟨d0, d1, d2, d3, d4, d5, d6⟩ := HYC.out w2 HB2.out
                have hyo := HYO.out.below HB2.out (Nat.le_refl _)
                have CM := hide (editmay_any y.da y.dn y.dc y.aa y.an y.ac y.E w2 hyo.1.1 hyo.2.1.1 hyo.1.2 hyo.2.1.2)
                unfold edV at CM
                clear HX1 HX HO HN HE hyo CG CQ HGS HGL
                go_wp2_with fail
                refine CM.out.mono ?_
                rintro e w6 ⟨rfl, hb6⟩
                by_cases hm : emay y.E = 0
                · have qm : (emay y.E == 0) = true := by simp [hm]
                  have HM := hide hm
                  have HB6 := hide hb6
                  clear CM hm hb6
                  go_wp2_with fail
                  go_meet
                  case rel => exact ⟨_, rfl, fun _ => ⟨by first | trivial | rfl, HM.out⟩, HB6⟩
                · have qm : (emay y.E == 0) = false := by simp [hm]
                  have HB6 := hide hb6
                  clear CM hm hb6
                  go_wp2_with fail
                  go_meet
                  case rel => exact ⟨_, rfl, fun e => (by cases e), HB6⟩
            case rest =>
              obtain ⟨q, rfl, hqq, hbw⟩ := hcut
              obtain ⟨w3, hw3⟩ : ∃ x, x = wc := ⟨_, rfl⟩
              subst hw3
              have HB3 := hide (HB2.out.trans (hbw.out.mono HB2.out.size))
              have CG3 := hide (CG.out.keep HB3.out)
              have KP3 := hide (KP.out.below hbw.out KP.out.lt)
              have HOP3 := hide (ownF_keep HOP.out hbw.out)
              have hs23 := hbw.out.size
              have hsz := CG.out.sz
              clear hbw KP HOP
              cases q with
              | false =>
                go_wp2
                go_roundw
                case rel => exact ⟨i + 1, by omega, by omega, by go_num, hide ⟨vs, gs, ⟨V, av, cv⟩, CG3.out, CQ.out, HGS.out, by have := HGL.out; omega⟩⟩
                case measure => simp [intOf]; omega
              | true =>
                obtain ⟨rfl, hm⟩ := hqq rfl
                have hap := HX1.out rfl
                have HM := hide hm
                have HAX := hide hap
                have HWX := hide (vok_wf9 (appl_ok hap))
                have hkp := KP3.out
                have hv := CG3.out.z
                have px0 : w3.cell? ⟨p, 0, none⟩ = some (.int .i64 X.lg) := (hkp).cell rfl
                have px1 : w3.cell? ⟨p, 1, none⟩ = some (.slice a N c) := (hkp).cell rfl
                have px2 : w3.cell? ⟨p, 2, none⟩ = some (.int .u64 X.fl) := (hkp).cell rfl
                have px3 : w3.cell? ⟨p, 3, none⟩ = some (.int .u64 X.ct) := (hkp).cell rfl
                have px4 : w3.cell? ⟨p, 4, none⟩ = some (.int .u64 X.at9) := (hkp).cell rfl
                have px5 : w3.cell? ⟨p, 5, none⟩ = some (.int .u64 X.ls) := (hkp).cell rfl
                have va0 : w3.cell? ⟨w.heap.size, 0, none⟩ = some (.int .i64 V.lg) := (hv).cell rfl
                have va1 : w3.cell? ⟨w.heap.size, 1, none⟩ = some (.slice av V.f.length cv) := (hv).cell rfl
                have va2 : w3.cell? ⟨w.heap.size, 2, none⟩ = some (.int .u64 V.fl) := (hv).cell rfl
                have va3 : w3.cell? ⟨w.heap.size, 3, none⟩ = some (.int .u64 V.ct) := (hv).cell rfl
                have va4 : w3.cell? ⟨w.heap.size, 4, none⟩ = some (.int .u64 V.at9) := (hv).cell rfl
                have va5 : w3.cell? ⟨w.heap.size, 5, none⟩ = some (.int .u64 V.ls) := (hv).cell rfl
                have vf0 : w3.frozen? ⟨w.heap.size, 0, none⟩ = false := (hv).free 0
                have vf1 : w3.frozen? ⟨w.heap.size, 1, none⟩ = false := (hv).free 1
                have vf2 : w3.frozen? ⟨w.heap.size, 2, none⟩ = false := (hv).free 2
                have vf3 : w3.frozen? ⟨w.heap.size, 3, none⟩ = false := (hv).free 3
                have vf4 : w3.frozen? ⟨w.heap.size, 4, none⟩ = false := (hv).free 4
                have vf5 : w3.frozen? ⟨w.heap.size, 5, none⟩ = false := (hv).free 5
                have hlv := hv.lt
                have hlp := hkp.lt
                clear hm hap hkp hv
                go_upto_region 12 with fail
                have hopX : OwnF w3 w1.heap.size (.slice a X.f.length c) X.f := by rw [HN.out]; exact HOP3.out
                have hfsX := ownF_fsN hopX HWX.out rfl
                have CG4 := CG3.out.cur (x' := ⟨X, a, c⟩) ⟨hfsX.2, hc⟩ (fun q hq => by
                  have hq : a = some q := hq
                  have h1 := World.ownsRow.lt hopX q.block (by rw [hq]; rfl)
                  have h2 := CG.out.new (p := q.block) (by omega)
                  exact ⟨by omega, h1.2, h2.1, h2.2⟩)
                unfold set6 at CG4
                simp only at CG4
                rw [HN.out] at CG4
                have CG5 := hide CG4
                clear CG4 hopX hfsX
                generalize ((((((w3.setCell ⟨w.heap.size, 0, none⟩ (.int .i64 X.lg)).setCell ⟨w.heap.size, 1, none⟩ (.slice a N c)).setCell ⟨w.heap.size, 2, none⟩ (.int .u64 X.fl)).setCell ⟨w.heap.size, 3, none⟩ (.int .u64 X.ct)).setCell ⟨w.heap.size, 4, none⟩ (.int .u64 X.at9)).setCell ⟨w.heap.size, 5, none⟩ (.int .u64 X.ls)) = w4 at *
                obtain ⟨y2, b2, o2, hy2, e2, hyo2, d0, d1, d2, d3, d4, d5, d6⟩ := es_at (HE.out w4 CG5.out.bel) i hl1
                injection e2 with e2
                injection e2 with e2 e3
                subst e2 e3
                obtain rfl : y2 = y := Option.some.inj (hy2.symm.trans HY.out)
                have hu : 0 ≤ y2.E.fl ∧ 0 ≤ y2.E.ct ∧ 0 ≤ y2.E.at9 ∧ 0 ≤ y2.E.ls := ⟨hyo2.2.2.2.1.1, hyo2.2.2.2.2.1.1, hyo2.2.2.2.2.2.1.1, hyo2.2.2.2.2.2.2.1⟩
                have HU := hide hu
                have HMEM := hide (List.mem_of_getElem? hy2)
                have A6 := (Below.refl _ w4).alloc (Nat.le_refl _) (Obj.cells #[.slice y2.da y2.dn y2.dc, .slice y2.aa y2.an y2.ac, .int .i64 y2.E.lg, .int .u64 y2.E.fl, .int .u64 y2.E.ct, .int .u64 y2.E.at9, .int .u64 y2.E.ls] 40)
                have CG6 := hide (CG5.out.keep A6)
                have HEK6 := hide (show Ek (w4.alloc (Obj.cells #[.slice y2.da y2.dn y2.dc, .slice y2.aa y2.an y2.ac, .int .i64 y2.E.lg, .int .u64 y2.E.fl, .int .u64 y2.E.ct, .int .u64 y2.E.at9, .int .u64 y2.E.ls] 40)) w4.heap.size y2.cs.toArray 40 from ek_new w4 _ _)
                have HGL6 := hide (show gs.length ≤ 100000 from by have := HGL.out; omega)
                have HVL6 := hide (show vs.length ≤ 100000 from by have := CQ.out.len; have := HGL.out; omega)
                have HSZ6 := hide CG6.out.sz
                clear hyo2 hy2 hu A6
                go_wp2_with (first
                  | (at_builtin; refine wpList_append_e rfl (.tmp 49) (.tmp 54) rfl (w.heap.size + 1) u7 gs rfl CG6.out.o7 w4.heap.size y2 rfl HEK6.out HGL6.out HSZ6.out ?_; intro v8 w8 o8 g8 k8 l8; have CG8 := hide (CG6.out.push7 o8 g8 l8); have hz8 : Ek w8 w.heap.size #[.int .i64 X.lg, .slice a N c, .int .u64 X.fl, .int .u64 X.ct, .int .u64 X.at9, .int .u64 X.ls] 35 := (by have := CG8.out.z; unfold Vr.cs at this; simp only at this; rw [HN.out] at this; exact this); have z0 : w8.cell? ⟨w.heap.size, 0, none⟩ = some (.int .i64 X.lg) := hz8.cell rfl; have z1 : w8.cell? ⟨w.heap.size, 1, none⟩ = some (.slice a N c) := hz8.cell rfl; have z2 : w8.cell? ⟨w.heap.size, 2, none⟩ = some (.int .u64 X.fl) := hz8.cell rfl; have z3 : w8.cell? ⟨w.heap.size, 3, none⟩ = some (.int .u64 X.ct) := hz8.cell rfl; have z4 : w8.cell? ⟨w.heap.size, 4, none⟩ = some (.int .u64 X.at9) := hz8.cell rfl; have z5 : w8.cell? ⟨w.heap.size, 5, none⟩ = some (.int .u64 X.ls) := hz8.cell rfl; have hlz8 := hz8.lt; have A9 := (Below.refl _ w8).alloc (Nat.le_refl _) (Obj.cells #[.int .i64 X.lg, .slice a N c, .int .u64 X.fl, .int .u64 X.ct, .int .u64 X.at9, .int .u64 X.ls] 35); have CG9 := hide (CG8.out.keep A9); have HEK9 := hide (show Ek (w8.alloc (Obj.cells #[.int .i64 X.lg, .slice a N c, .int .u64 X.fl, .int .u64 X.ct, .int .u64 X.at9, .int .u64 X.ls] 35)) w8.heap.size (Vr.cs ⟨X, a, c⟩).toArray 35 from (by unfold Vr.cs; simp only; rw [HN.out]; exact ek_new w8 _ _)); have HSZ9 := hide CG9.out.sz; clear o8 g8 k8 l8 A9 hz8)
                  | (at_builtin; refine wpList_append_v rfl (.tmp 56) (.tmp 58) rfl (w.heap.size + 1) u6 vs rfl CG9.out.o6 w8.heap.size ⟨X, a, c⟩ rfl HEK9.out HVL6.out HSZ9.out ?_; intro v10 w10 o10 g10 k10 l10; have CG10 := hide (CG9.out.push6 o10 g10 l10); clear o10 g10 k10 l10)
                  | fail)
                go_roundw
                case rel => exact ⟨i + 1, by omega, by omega, by go_num, hide ⟨vs ++ [⟨X, a, c⟩], gs ++ [y2], ⟨X, a, c⟩, CG10.out, CQ.out.snoc HAX.out ⟨HM.out, HU.out⟩, fun z hz => by
                  rcases List.mem_append.1 hz with e | e
                  · exact HGS.out z e
                  · rw [List.mem_singleton.1 e]; exact HMEM.out, by rw [List.length_append]; have := HGL.out; simp; omega⟩⟩
                case measure => simp [intOf]; omega
      | false =>
        go_wp2
        refine bodyPost_ret (by simp [results, Tryz.results5, go_sem]) rfl (show EdA ls w (.returned (.tuple #[u7, u6, .bool true])) wr from ⟨CG.out.bel, .inr ⟨_, _, _, _, gs, rfl, CG.out, CQ.out, HGS.out, by have := HGL.out; omega⟩⟩)

end Go.Proofs.YtcahlmneancapabGreatDoor.Clep

/- The rows that edits tells, read later on; a Disk that dies while Edits are Saved. No conditions but the Disk's bounds. -/
namespace Go.Proofs.YtcahlmneancapabGreatDoor.Clep
open Go.RowKit Go.Maps Go.Sort
set_option linter.unusedVariables false
set_option maxRecDepth 10000

/-- A slice that leads to these Edits, which may be. -/
def Gd (W : World) (v : Value) (gs : List Er) : Prop := ∃ a c, v = .slice a gs.length c ∧ ∀ (i : Nat) (y : Er), gs[i]? = some y → y.ok W ∧ Eg y.E ∧ ∃ g, a = some ⟨g, 0, none⟩ ∧ ∀ (j : Nat) (u : Value), y.cs[j]? = some u → W.cell? ⟨g, i * 7 + j, none⟩ = some u
/-- A slice that leads to these Views. -/
def Vd (W : World) (v : Value) (vs : List Vr) : Prop := ∃ a c, v = .slice a vs.length c ∧ ∀ (i : Nat) (y : Vr), vs[i]? = some y → Fs W y.a y.V.f.length y.c y.V.f ∧ y.c ≤ 9223372036854775807 ∧ ∃ g, a = some ⟨g, 0, none⟩ ∧ ∀ (j : Nat) (u : Value), y.cs[j]? = some u → W.cell? ⟨g, i * 6 + j, none⟩ = some u
theorem Gd.below {W W' : World} {v : Value} {gs : List Er} (h : Gd W v gs) (hb : Below W.heap.size W W') : Gd W' v gs := by
  obtain ⟨a, c, e, h⟩ := h
  refine ⟨a, c, e, fun i y hy => ?_⟩
  obtain ⟨h1, h2, g, h3, h4⟩ := h i y hy
  exact ⟨h1.below hb (Nat.le_refl _), h2, g, h3, fun j u hu => (hb.cell (p := ⟨g, i * 7 + j, none⟩) (World.block_lt_of_cell? W _ (h4 j u hu))).trans (h4 j u hu)⟩
theorem Vd.below {W W' : World} {v : Value} {vs : List Vr} (h : Vd W v vs) (hb : Below W.heap.size W W') : Vd W' v vs := by
  obtain ⟨a, c, e, h⟩ := h
  refine ⟨a, c, e, fun i y hy => ?_⟩
  obtain ⟨h1, h2, g, h3, h4⟩ := h i y hy
  exact ⟨h1.below hb (Nat.le_refl _), h2, g, h3, fun j u hu => (hb.cell (p := ⟨g, i * 6 + j, none⟩) (World.block_lt_of_cell? W _ (h4 j u hu))).trans (h4 j u hu)⟩
theorem ecs_get (l : List Er) : ∀ (i j : Nat) (x : Er), l[i]? = some x → j < 7 → (ecs l)[i * 7 + j]? = x.cs[j]? := by
  induction l with
  | nil => intro i j x h; simp at h
  | cons y r ih =>
    intro i j x h hj
    have e : ecs (y :: r) = y.cs ++ ecs r := by simp [ecs]
    have hl : y.cs.length = 7 := rfl
    rw [e]
    cases i with
    | zero =>
      simp at h
      subst h
      rw [Nat.zero_mul, Nat.zero_add, List.getElem?_append_left (by omega)]
    | succ i =>
      rw [List.getElem?_append_right (by omega), hl, show (i + 1) * 7 + j - 7 = i * 7 + j by omega]
      exact ih i j x (by simpa using h) hj
theorem gd_of {w W : World} {v6 v7 : Value} {x : Vr} {vs : List Vr} {gs ls : List Er} (h : Cg w W v6 v7 x vs 40 7 gs.length (ecs gs)) (hq : Cq gs vs x) (hl : ∀ y ∈ gs, y ∈ ls) (ho : ∀ y ∈ ls, y.ok W) : Gd W v7 gs ∧ Vd W v6 vs := by
  constructor
  · have h7 := h.o7
    have h1 := h7
    obtain ⟨-, ⟨rfl, hn⟩ | ⟨g, cap, cur, rfl, hg, hh, hnc, hcm, hcs, hx⟩⟩ := h1
    · exact ⟨none, 0, by rw [hn], fun i y hy => by have := (List.getElem?_eq_some_iff.1 hy).1; omega⟩
    · refine ⟨_, cap, rfl, fun i y hy => ⟨ho y (hl y (List.mem_of_getElem? hy)), hq.eg y (List.mem_of_getElem? hy), g, rfl, fun j u hj => ?_⟩⟩
      have hj7 : j < 7 := by have := (List.getElem?_eq_some_iff.1 hj).1; simpa [Er.cs] using this
      have hc := World.ownsRow.cells (w := W) (base := w.heap.size + 1) (e := 40) (size := 7) (v := .slice (some ⟨g, 0, none⟩) gs.length cap) (n := gs.length) (xs := ecs gs) h7 (g := g) rfl (i * 7 + j) u (by rw [ecs_get gs i j y hy hj7]; exact hj)
      rwa [add_plain, Nat.zero_add] at hc
  · obtain ⟨g, c, e, hc, hcell⟩ := ownV_form h.o6 (by rw [hq.len]; omega)
    exact ⟨_, c, e, fun i y hy => ⟨(h.fs y (.inr (List.mem_of_getElem? hy))).1, (h.fs y (.inr (List.mem_of_getElem? hy))).2, g, rfl, fun j u hu => hcell i y j u hy hu⟩⟩
/-- The View behind the first k Edits. -/
def Vk (gs : List Er) (k : Nat) (V : Vw) : Prop := k ≤ gs.length ∧ apE oneV ((gs.map Er.E).take k) = some V
def Gk (gs : List Er) (s : Nat) (V : Vw) : Prop := Vk gs s V ∨ Vk gs (s + 1) V
theorem Vk.next {gs : List Er} {i : Nat} {V : Vw} {y : Er} {vs : List Vr} {x : Vr} (h : Vk gs i V) (hy : gs[i]? = some y) (hq : Cq gs vs x) : ∃ U, appl V y.E = some U ∧ Vk gs (i + 1) U := by
  have hlt : i < gs.length := (List.getElem?_eq_some_iff.1 hy).1
  obtain ⟨z, hz⟩ : ∃ z, vs[i + 1]? = some z := ⟨_, List.getElem?_eq_getElem (by rw [hq.len]; omega)⟩
  have hz2 := hq.at' _ _ hz
  have e : (gs.map Er.E).take (i + 1) = (gs.map Er.E).take i ++ [y.E] := by
    rw [List.take_add_one]
    simp [hy]
  refine ⟨z.V, ?_, hlt, hz2⟩
  rw [e, apE_app, h.2] at hz2
  change apE V [y.E] = some z.V at hz2
  rw [apE_cons] at hz2
  split at hz2
  · cases hz2
  · rename_i X hX
    rw [hX]
    exact hz2
theorem Vk.at' {gs : List Er} {k : Nat} {V : Vw} {vs : List Vr} {x : Vr} (h : Vk gs k V) (hq : Cq gs vs x) {z : Vr} (hz : vs[k]? = some z) : V = z.V := by
  have := hq.at' _ _ hz
  rw [h.2] at this
  exact Option.some.inj this
theorem vk_zero (gs : List Er) : Vk gs 0 oneV := ⟨Nat.zero_le _, rfl⟩

end Go.Proofs.YtcahlmneancapabGreatDoor.Clep

/- Open of a manifest's Disk whose current or file was changed or struck, where nothing fails. Up to 60 files, 250,000 bytes. -/
namespace Go.Proofs.YtcahlmneancapabGreatDoor.Clep
open Go.RowKit Go.Maps Go.Sort
set_option linter.unusedVariables false
set_option maxRecDepth 10000

theorem readS_gone {S : St} {s : ByteArray} (hd : S.dead = false) (hok : okName s = true) (hn : fileAt S.files (lk S.names s) = none) : readS S s = (11, []) := by
  unfold readS
  rw [if_neg (by rw [hok]; simp), if_neg (by rw [hd]; simp), hn]
/-- What a call made may be written. -/
theorem rm_own {w : World} {B : Nat} {v : Value} {zs : List Int} (h : Own w B v zs) (h0 : 0 < zs.length) (hz : ByteL zs) : ∃ g cap, v = .slice (some ⟨g, 0, none⟩) zs.length cap ∧ B ≤ g ∧ g < w.heap.size ∧ Rm w g cap zs := by
  obtain ⟨ao, cp, hv, hcm, hB, hp⟩ := own_bs h (range_of hz)
  obtain ⟨hl, ⟨rfl, hn⟩ | ⟨g, cap, cur, rfl, hg, hh, hnc, hcm2, hcs, hx⟩⟩ := h
  · omega
  · injection hv with e1 e2 e3
    subst e1 e3
    obtain ⟨b, off, e, hc⟩ := hB.2.2.2 h0
    injection e with e
    injection e with e1 e2 _
    subst e1 e2
    refine ⟨g, cap, rfl, hg, (Array.getElem?_eq_some_iff.1 hh).1, hnc, hcm2, hz, fun i hi => by have := hc i hi; rwa [Nat.zero_add] at this, fun i hi => ?_, fun i hi => ?_⟩
    · simp only [World.cell?, hh]
      rw [Array.getElem?_eq_getElem (by omega)]
      rfl
    · simp [World.frozen?, hh]
theorem Rm.sameF {F : Nat → Prop} {w w' : World} {g cap : Nat} {zs : List Int} (h : Rm w g cap zs) (hs : Same F w w') (hg : F g) : Rm w' g cap zs := by
  have hb := hs.block g hg
  exact ⟨h.le, h.max, h.range, fun i hi => (World.cell?_of_block (a := ⟨g, i, none⟩) hb).trans (h.cell i hi), fun i hi => by rw [World.cell?_of_block (a := ⟨g, i, none⟩) hb]; exact h.some i hi, fun i hi => by
    have h1 := h.free i hi
    unfold World.frozen? at h1 ⊢
    rw [hb]
    exact h1⟩
theorem Kd.set {K : Nat → Prop} {w : World} {R : Nat} {S : St} (h : Kd K w R S) (a : Addr) (v : Value) (ha : K a.block) : Kd K (w.setCell a v) R S := by
  obtain ⟨F, m, hF⟩ := h
  have hc : Ch (· = a.block) w (w.setCell a v) := Ch.set w a v rfl
  exact ⟨F, (m.ch (hc.mono (Q := F) (fun i _ hi => by subst hi; exact hF _ ha))).thin (G := F) (fun i hi => .inl hi), hF⟩
theorem kd_append' {K : Nat → Prop} {w : World} {R : Nat} {S : St} (s : ByteArray) (ao : Option Addr) (len cap : Nat) (zs : List Int) {E : Nat} {S' : St} (e : appendS S s zs = (E, S')) (h : Kd K w R S) (hm : S.calls < 1099511627776) (hs : s.size ≤ 70368744177664)
    (hb : Bs w ao len cap zs) (hl : len ≤ 70368744177664) (ht : ∀ b off, ao = some ⟨b, off, none⟩ → K b) :
    Calls Tryz.prog 14 #[.pointer (some ⟨R, 0, none⟩), .string s, .slice ao len cap] w fun e w' => e = .returned (.int .i64 E) ∧ Kd K w' R S' ∧ Same K w w' := by
  obtain ⟨F, m, hF⟩ := h
  refine (append_h s ao len cap zs e m hm hs hb hl (fun b off h => hF b (ht b off h))).mono ?_
  rintro e w' ⟨rfl, h2, h3⟩
  exact ⟨rfl, ⟨F, h2, hF⟩, h3.mono hF⟩
theorem rm_cut {w : World} {g cap : Nat} {zs : List Int} (h : Rm w g cap zs) (n : Nat) (hn : n ≤ zs.length) : Bs w (some ⟨g, 0, none⟩) n cap (zs.take n) := by
  have hg : ∀ i, i < n → (zs.take n).getD i 0 = zs.getD i 0 := fun i hi => by simp [List.getD, hi]
  refine ⟨by rw [List.length_take]; omega, ⟨by have := h.le; omega, fun e => by cases e⟩, fun i => ?_, fun h0 => ⟨g, 0, rfl, fun i hi => ?_⟩⟩
  · by_cases hi : i < n
    · rw [hg i hi]; exact range_of h.range i
    · simp [List.getD, List.getElem?_take, hi]
  · rw [Nat.zero_add, hg i hi]
    exact h.cell i (by omega)
/-- What Open tells of it: x, and the View of the Manifest where there is one. -/
def OpenR (K : Nat → Prop) (R : Nat) (x : Int) (mk : Bool) (w : World) (e : Ending) (w' : World) : Prop :=
  Same K w w' ∧ ((mk = false ∧ e = .returned (.tuple #[.pointer none, .int .i64 x]) ∧ x ≠ 0) ∨
    (mk = true ∧ x = 0 ∧ ∃ M n' c' V S', e = .returned (.tuple #[.pointer (some ⟨M, 0, none⟩), .int .i64 0]) ∧ Km K w' M R n' c' V false S' ∧ vok V = true))
theorem kd_open_none {K : Nat → Prop} {w : World} {R : Nat} {S : St} {E : Nat} {X : List Int} (h : Kd K w R S) (e : readS S nCur = (E, X)) (hE : E ≠ 0) :
    Calls Tryz.prog 15 #[.pointer (some ⟨R, 0, none⟩)] w (OpenR K R (E : Nat) false w) := by
  have hlt := fun i (hi : K i) => h.lt hi
  obtain ⟨F, m, hF⟩ := h
  refine (open_none m e hE).mono ?_
  rintro e w' ⟨rfl, -, hb⟩
  exact ⟨same_of hb hlt, .inl ⟨rfl, rfl, by omega⟩⟩
theorem kd_open_bad {K : Nat → Prop} {w : World} {R : Nat} {S : St} {X : List Int} (h : Kd K w R S) (e : readS S nCur = (0, X)) (hl : ldP X = none) :
    Calls Tryz.prog 15 #[.pointer (some ⟨R, 0, none⟩)] w (OpenR K R 9 false w) := by
  have hlt := fun i (hi : K i) => h.lt hi
  obtain ⟨F, m, hF⟩ := h
  refine (open_bad m e hl).mono ?_
  rintro e w' ⟨rfl, -, hb⟩
  exact ⟨same_of hb hlt, .inl ⟨rfl, rfl, by omega⟩⟩
theorem kd_open_lost {K : Nat → Prop} {w : World} {R n : Nat} {S : St} {X Y : List Int} {E : Nat} (h : Kd K w R S) (e : readS S nCur = (0, X)) (hl : ldP X = some n) (h1 : 1 ≤ n) (h2 : n < 100) (e2 : readS S (mnm n) = (E, Y)) (hE : E ≠ 0 ∨ E = 0 ∧ rpE Y = none) :
    Calls Tryz.prog 15 #[.pointer (some ⟨R, 0, none⟩)] w (OpenR K R 9 false w) := by
  have hlt := fun i (hi : K i) => h.lt hi
  obtain ⟨F, m, hF⟩ := h
  refine (open_lost m e hl h1 h2 e2 hE).mono ?_
  rintro e w' ⟨rfl, -, hb⟩
  exact ⟨same_of hb hlt, .inl ⟨rfl, rfl, by omega⟩⟩
/-- The file reads as any bytes. -/
theorem kd_open_file {K : Nat → Prop} {w : World} {R n T : Nat} {S : St} {X Z : List Int} (h : Kd K w R S) (D : Dk S T) (hT : lk S.names (mnm T) ≠ 0) (hc : Calm S) (r1 : readS S nCur = (0, Z)) (hl : ldP Z = some n) (h1 : 1 ≤ n) (h2 : n < 100) (r2 : readS S (mnm n) = (0, X)) (hX : ByteL X) (h6 : T + 1 ≤ 60) (hq : tot S + 1334 ≤ 250000) (hq2 : tot S + 1334 ≤ S.q) (hm : S.calls < 68719476736) :
    Calls Tryz.prog 15 #[.pointer (some ⟨R, 0, none⟩)] w fun e w' => ∃ x mk, OpenR K R x mk w e w' ∧ (x = 0 ∨ x = 9) := by
  cases hr : rpE X with
  | none =>
    refine (kd_open_lost h r1 hl h1 h2 r2 (.inr ⟨rfl, hr⟩)).mono ?_
    intro e w' ho
    exact ⟨9, false, ho, .inr rfl⟩
  | some p =>
    obtain ⟨V, k⟩ := p
    obtain ⟨-, -, hvk⟩ := rpE_le hr
    refine (kd_open_read h D hT hc r1 hl h1 h2 r2 hr (rpE_nn hX hr) h6 hq hq2 hm).mono ?_
    rintro e w' ⟨s, M, n', c', S', rfl, km, -⟩
    exact ⟨0, true, ⟨s, .inr ⟨rfl, rfl, M, n', c', V, S', rfl, km, hvk⟩⟩, .inl rfl⟩

end Go.Proofs.YtcahlmneancapabGreatDoor.Clep

/- The statement ManHostile: it answers true (a walk over the translated program). No conditions. -/
namespace Go.Proofs.YtcahlmneancapabGreatDoor.Clep
open Go.RowKit Go.Maps Go.Sort
set_option linter.unusedVariables false
set_option maxRecDepth 10000

/-- While Edits are Saved on a Disk where nothing fails. -/
structure HsL (we W : World) (M R : Nat) (gs : List Er) (i : Nat) (S : St) (l : List Ed) : Prop where
  live : ∃ c V, Mp S 1 1 l (el l).length V ∧ Vk gs i V ∧ Km (fun k => k < we.heap.size) W M R 1 c V false S ∧ c ≤ i + 1
  calm : Calm S
  q : S.q = 1048576
  tot : tot S ≤ 3000 + 1312 * i
  calls : S.calls ≤ 1000 + 10 * i
  bel : Below we.heap.size we W
/-- Which file is changed: its name, its bytes. -/
structure HsN (cur : Bool) (s : ByteArray) (zs : List Int) (S : St) (l : List Ed) : Prop where
  c : cur = true → s = nCur ∧ zs = leB 1
  m : cur = false → s = mnm 1 ∧ zs = el l
  f : ∃ f, fileAt S.files (lk S.names s) = some f ∧ f.bs = zs
  ok : okName s = true
  okm : okM 1 s
  sz : s.size ≤ 100
def hMan1 : ByteArray := ⟨#[109, 97, 110, 46, 49]⟩
theorem mnm_one' : mnm 1 = hMan1 := by decide
theorem solo_files {S : St} {T n : Nat} {X : List Int} {L : Nat} (D : Dk S T) (so : Solo leB S n X L) : ∃ f g, fileAt S.files (lk S.names (mnm n)) = some f ∧ f.bs = X ∧ fileAt S.files (lk S.names nCur) = some g ∧ g.bs = leB n := by
  obtain ⟨x, hx⟩ := so.all
  obtain ⟨-, g, f, h1, h2, h3, h4, h5, h6⟩ := hx _ D.nm
  exact ⟨f, g, h4, h5, h1, h2⟩
theorem mem_tot : ∀ (fs : List Fl) (f : Fl), f ∈ fs → f.bs.length ≤ totF fs
  | [], f, h => by cases h
  | x :: r, f, h => by
    have e : totF (x :: r) = x.bs.length + totF r := by simp [totF]
    rcases List.mem_cons.1 h with rfl | h
    · omega
    · have := mem_tot r f h
      omega
theorem tot_at {S : St} {k : Int} {f : Fl} (h : fileAt S.files k = some f) : f.bs.length ≤ tot S := mem_tot _ _ (List.mem_of_find?_eq_some h)
theorem leB13 : (leB 1).length = 13 := by decide +kernel
theorem el_pos {l : List Ed} (h : 0 < l.length) : 0 < (el l).length := by
  rcases List.eq_nil_or_concat l with rfl | ⟨r, E, rfl⟩
  · simp at h
  · rw [List.concat_eq_append, el_app, el_one, List.length_append, fr_len]; omega
/-- What Open tells of the Disk with the changed file. -/
def HsO (K : Nat → Prop) (R : Nat) (cur gone same : Bool) (w : World) (e : Ending) (w' : World) : Prop :=
  ∃ x mk, OpenR K R x mk w e w' ∧ (cur = true → gone = true → x = 11) ∧ (cur = false → gone = true → x = 9) ∧ (cur = true → gone = false → same = false → x = 9) ∧ (x = 0 ∨ x = 9 ∨ x = 11) ∧ (gone = false → x ≠ 11)
theorem hs_open {K : Nat → Prop} {w : World} {R n0 : Nat} {S S1 S3 : St} {l : List Ed} {V : Vw} {cur gone : Bool} {s : ByteArray} {zs zs' : List Int} (hm : Mp S 1 1 l (el l).length V) (hc : Calm S) (hq : S.q = 1048576) (ht : tot S ≤ 20000) (hcl : S.calls ≤ 2000)
    (hN : HsN cur s zs S l) (hz : ByteL zs') (hzl : zs'.length ≤ 100000) (k : Nat) (x : Int) (m : Nat) (he : zs' = (zs.set k x).take m)
    (h : Kd K w R (if gone then S1 else S3)) (hc1 : Calm S1) (D1 : Dk S1 1) (cl1 : S1.calls = S.calls + 1) (K1 : Kpt s S S1) (l1 : lk S1.names s = 0)
    (hc3 : Calm S3) (D3 : Dk S3 1) (cl3 : S3.calls = S.calls + 3) (q3 : S3.q = S.q) (t3 : tot S3 ≤ tot S + zs'.length) (K3 : Kpt s S S3) (l3 : lk S3.names s ≠ 0) (hf' : ∃ f', fileAt S3.files (lk S3.names s) = some f' ∧ f'.bs = zs') :
    Calls Tryz.prog 15 #[.pointer (some ⟨R, 0, none⟩)] w (HsO K R cur gone (decide (zs' = zs)) w) := by
  obtain ⟨f0, g0, hf0, hfb, hg0, hgb⟩ := solo_files hm.dk hm.solo
  have hmc : mnm 1 ≠ nCur := mnm_cur (by decide) (by decide)
  have hlf : lk S.names (mnm 1) ≠ 0 := hm.top
  have hlg : lk S.names nCur ≠ 0 := fun e => by rw [e, hm.dk.zero] at hg0; cases hg0
  have rd : ∀ {S' : St} (t : ByteArray) {fl : Fl}, Dk S' 1 → S'.dead = false → okName t = true → Kpt s S S' → t ≠ s → lk S.names t ≠ 0 → fileAt S.files (lk S.names t) = some fl → readS S' t = (0, fl.bs) := fun {S'} t {fl} hD hd ho hK hts hl hf => readS_at hD hd ho (by rw [hK.live t hts, hK.file t hts hl]; exact hf)
  have hle := ldP_leB (n := 1) (by decide) (by decide)
  cases gone with
  | true =>
    rw [if_pos rfl] at h
    cases cur with
    | true =>
      obtain ⟨rfl, rfl⟩ := hN.c rfl
      refine (kd_open_none h (readS_gone hc1.2.2 hN.ok (by rw [l1]; exact D1.zero)) (by decide)).mono ?_
      intro e w' ho
      exact ⟨_, _, ho, (fun _ _ => rfl), (fun h => by cases h), (fun _ h => by cases h), .inr (.inr rfl), (fun h => by cases h)⟩
    | false =>
      obtain ⟨rfl, rfl⟩ := hN.m rfl
      have r1 := rd nCur D1 hc1.2.2 okCur K1 hmc.symm hlg hg0
      rw [hgb] at r1
      refine (kd_open_lost h r1 hle (by decide) (by decide) (readS_gone hc1.2.2 hN.ok (by rw [l1]; exact D1.zero)) (.inl (by decide))).mono ?_
      intro e w' ho
      exact ⟨_, _, ho, (fun h => by cases h), (fun _ _ => rfl), (fun h => by cases h), .inr (.inl rfl), (fun h => by cases h)⟩
  | false =>
    rw [if_neg (by decide)] at h
    obtain ⟨f', hf1, hf2⟩ := hf'
    have r3 := readS_at D3 hc3.2.2 hN.ok hf1
    rw [hf2] at r3
    cases cur with
    | true =>
      obtain ⟨rfl, rfl⟩ := hN.c rfl
      have r2 := rd (mnm 1) D3 hc3.2.2 (mnm_okAll 1 (by decide)).1 K3 hmc hlf hf0
      rw [hfb] at r2
      by_cases hs : zs' = leB 1
      · rw [hs] at r3
        have hX : ByteL (el l) := by
          obtain ⟨F, h1, -⟩ := h
          exact (held_bytes h1 r2).1
        refine (kd_open_file h D3 (by rw [K3.live _ hmc]; exact hlf) hc3 r3 hle (by decide) (by decide) r2 hX (by decide) (by omega) (by omega) (by omega)).mono ?_
        rintro e w' ⟨x, mk, ho, hx⟩
        exact ⟨x, mk, ho, (fun _ h => by cases h), (fun h => by cases h), (fun _ _ h => by rw [decide_eq_false_iff_not] at h; exact absurd hs h), hx.elim .inl (fun h => .inr (.inl h)), (fun _ h => by omega)⟩
      · refine (kd_open_bad h r3 (ld_near hz k x m he hs)).mono ?_
        intro e w' ho
        exact ⟨_, _, ho, (fun _ h => by cases h), (fun h => by cases h), (fun _ _ _ => rfl), .inr (.inl rfl), (fun _ h => by omega)⟩
    | false =>
      obtain ⟨rfl, rfl⟩ := hN.m rfl
      have r1 := rd nCur D3 hc3.2.2 okCur K3 hmc.symm hlg hg0
      rw [hgb] at r1
      refine (kd_open_file h D3 l3 hc3 r1 hle (by decide) (by decide) r3 hz (by decide) (by omega) (by omega) (by omega)).mono ?_
      rintro e w' ⟨x, mk, ho, hx⟩
      exact ⟨x, mk, ho, (fun h => by cases h), (fun _ h => by cases h), (fun h => by cases h), hx.elim .inl (fun h => .inr (.inl h)), (fun _ h => by omega)⟩
set_option maxHeartbeats 16000000 in
theorem manhostile_any (a0 : Option Addr) (len0 cap0 : Nat) (ls : List Er) (cur : Bool) (at0 by0 cut0 : Int) (gone : Bool) (w : World) (h0 : Es w a0 len0 cap0 ls) (hl0 : len0 ≤ 9223372036854775807) :
    Calls Tryz.prog 3 #[.slice a0 len0 cap0, .bool cur, .int .i64 at0, .int .u8 by0, .int .i64 cut0, .bool gone] w fun e w' => e = .returned (.bool true) ∧ Below w.heap.size w w' := by
  obtain ⟨S1, N1⟩ := newOk_one 1048576 (by decide)
  have P1 := mp_new N1 vok_one one_nn
  have HN1 := hide N1
  have HP1 := hide P1
  have HO := hide (fun W (hW : Below w.heap.size w W) (y : Er) (hy : y ∈ ls) => (h0.2.2.1 y hy).below hW (Nat.le_refl _))
  have ED := hide (edits_any a0 len0 cap0 ls w (fun W hW => h0.below hW (Nat.le_refl _)) hl0)
  have AW := hide (fun W => mawake_any W)
  clear N1 P1 h0
  go_enter Tryz.func3, Tryz.ntmps3
  go_wp2_with fail
  refine ED.out.mono ?_
  rintro e we ⟨hbe, hcase⟩
  have ND := hide (kd_new 1048576 we (by decide) 1048576 rfl)
  have HBE := hide hbe
  clear hbe ED
  rcases hcase with rfl | ⟨v6, v7, x, vs, gs, rfl, hcg, hcq, hgl, hg45⟩
  · go_wp2_with fail
    refine ND.out.mono ?_
    rintro e w1 ⟨R, rfl, D1, s1⟩
    have NM := hide (km_new none 0 0 oneV D1 (fs_nil w1) (by decide) vok_one one_nn HN1.out)
    have b1 := hide (s1.below (B := we.heap.size) (fun j hj => hj))
    unfold vwV oneV at NM
    clear ND D1 s1
    go_wp2_with fail
    refine NM.out.mono ?_
    rintro e w2 ⟨M, rfl, -, s2, -⟩
    have b2 := hide (b1.out.trans (s2.below (B := we.heap.size) (fun j hj => hj)))
    clear NM s2
    go_wp2_with fail
    refine (AW.out w2).mono ?_
    rintro e w3 ⟨rfl, hb3⟩
    have b3 := hide (HBE.out.trans ((b2.out.trans (hb3.mono b2.out.size)).mono HBE.out.size))
    clear hb3 AW
    go_wp2
    go_ret
    exact ⟨rfl, b3.out⟩
  · obtain ⟨hgd, hvd⟩ := gd_of hcg hcq hgl (fun y hy => HO.out we HBE.out y hy)
    have HGD := hide hgd
    have HCQ := hide hcq
    obtain ⟨ag, cg, eg, -⟩ := hgd
    obtain ⟨av, cv, ev, -⟩ := hvd
    subst eg ev
    clear hcg hgl
    go_wp2_with fail
    refine ND.out.mono ?_
    rintro e w1 ⟨R, rfl, D1, s1⟩
    have NM := hide (km_new none 0 0 oneV D1 (fs_nil w1) (by decide) vok_one one_nn HN1.out)
    have b1 := hide (s1.below (B := we.heap.size) (fun j hj => hj))
    unfold vwV oneV at NM
    clear ND D1 s1
    go_wp2_with fail
    refine NM.out.mono ?_
    rintro e w2 ⟨M, rfl, k2, s2, -⟩
    have b2 := b1.out.trans (s2.below (B := we.heap.size) (fun j hj => hj))
    have S0 := hide (show HsL we w2 M R gs 0 S1 [wholeE oneV] from ⟨⟨1, oneV, HP1.out, vk_zero gs, k2, by omega⟩, HN1.out.calm, HN1.out.q, by have := HN1.out.tot; have := one_len; have := leB_len 1; omega, by have := HN1.out.calls; omega, b2⟩)
    clear NM s2 k2 b1 b2 HN1 HP1
    go_upto_block 0 with fail
    go_cut [19] from 54 to 70 (fun s19 wx => ∃ i S l, i ≤ 8 ∧ Hid (HsL we wx M R gs i S l))
    case first =>
      clear AW
      go_wp2_with fail
      go_loopw [19] (fun s19 wr => ∃ (i : Nat) (S : St) (l : List Ed), i ≤ gs.length ∧ i ≤ 8 ∧ s19 = .int .i64 (i : Nat) ∧ Hid (HsL we wr M R gs i S l)) (fun t _ => 8 - (intOf t).toNat)
      case atStart => exact ⟨0, S1, _, by omega, by omega, rfl, S0⟩
      case round =>
        obtain ⟨i, S, l, hi, hi8, rfl, hst⟩ := hrel
        clear S0
        by_cases hlt : i < gs.length
        · have q1 : (i : Int) < (gs.length : Int) := by omega
          by_cases h8 : i < 8
          · have q2 : (i : Int) < 8 := by omega
            obtain ⟨c, V, hmp, hvk, hkm, hc1⟩ := hst.out.live
            obtain ⟨ag', cg', e1, hg⟩ := HGD.out.below hst.out.bel
            injection e1 with e1 e2 e3
            subst e1 e3
            obtain ⟨y, hy⟩ : ∃ y, gs[i]? = some y := ⟨_, List.getElem?_eq_getElem hlt⟩
            obtain ⟨hyo, hyg, g, rfl, hcell⟩ := hg i y hy
            obtain ⟨U, hap, hvk'⟩ := hvk.next hy HCQ.out
            have d0 := hcell 0 _ rfl
            have d1 := hcell 1 _ rfl
            have d2 := hcell 2 _ rfl
            have d3 := hcell 3 _ rfl
            have d4 := hcell 4 _ rfl
            have d5 := hcell 5 _ rfl
            have d6 := hcell 6 _ rfl
            rw [Nat.add_zero] at d0
            have htot := hst.out.tot
            have hq := hst.out.q
            have hcl := hst.out.calls
            have hbad := (emay_parts hyg.1).1
            obtain ⟨S', sv, hcalm, hcl2, htt, hqq, hnm, hmp'⟩ := mp_save_calm hmp hst.out.calm hyg hap (by omega) (by omega)
            have SV := hide (km_save hkm y.da y.aa y.dn y.dc y.an y.ac y.E hyo.1.1 hyo.2.1.1 (by have := hyo.1.1.1; omega) (by have := hyo.2.1.1.1; omega) hyg.2 hmp.vok (by decide) (by decide) (by omega) (by omega))
            have HM := hide (show emay y.E = 0 ∧ appl V y.E = some U from ⟨hyg.1, hap⟩)
            have HS := hide sv
            have HP := hide hmp'
            have HC := hide hcalm
            have HVK' := hide hvk'
            have HBEL := hide hst.out.bel
            unfold edV at SV
            clear sv hyg hvk hvk' hmp hcell hg hkm hap hbad hmp' hcalm hnm hst
            go_wp2_with fail
            refine SV.out.mono ?_
            rintro e w4 ⟨s4, -, q4⟩
            obtain ⟨E2, ph2, S2, r1, rfl, k4⟩ := q4 U HM.out.1 HM.out.2
            rw [HS.out] at r1
            injection r1 with x1 x2
            injection x2 with x2 x3
            subst x1 x2 x3
            rw [if_neg (by decide), if_neg (by decide)] at k4
            have HST := hide (show HsL we w4 M R gs (i + 1) S' (l ++ [y.E]) from ⟨⟨c + 1, U, HP.out, HVK'.out, by simpa using k4, by omega⟩, HC.out, by omega, by omega, by omega, HBEL.out.trans (s4.below (B := we.heap.size) (fun j hj => hj))⟩)
            clear SV q4 k4 HS HP HC HM s4 HBEL HVK' hyo d0 d1 d2 d3 d4 d5 d6
            go_wp2_with fail
            go_roundw
            case rel => exact ⟨i + 1, S', _, by omega, by omega, by go_num, HST⟩
            case measure => simp [intOf]; omega
          · have q2 : ¬ (i : Int) < 8 := by omega
            go_wp2_with fail
            go_meet
            case rel => exact ⟨i, S, l, hi8, hst⟩
        · have q1 : ¬ (i : Int) < (gs.length : Int) := by omega
          go_wp2_with fail
          go_meet
          case rel => exact ⟨i, S, l, hi8, hst⟩
    case rest =>
      obtain ⟨i, S, l, hi8, hst⟩ := hcut
      clear S0
      obtain ⟨wo, hwo⟩ : ∃ x, x = wc := ⟨_, rfl⟩
      subst hwo
      obtain ⟨c, V, hmp, -, hkm, -⟩ := hst.out.live
      have HKD := hide hkm.kd
      have HMP := hide hmp
      have NA := hide (km_name hkm (by decide) (by decide))
      rw [mnm_one'] at NA
      unfold hMan1 at NA
      have htot := hst.out.tot
      have hcl := hst.out.calls
      have hq := hst.out.q
      have HC := hide hst.out.calm
      have HB := hide hst.out.bel
      clear hmp hkm hst
      go_wp2_with fail
      refine NA.out.mono ?_
      rintro e wo ⟨rfl, rfl⟩
      clear NA
      go_upto_if 73 with fail
      go_cut [20] from 71 to 195 (fun s20 wx => ∃ s zs, s20 = .string s ∧ Hid (HsN cur s zs S l) ∧ wo = wx)
      case first =>
        obtain ⟨f0, g0, hf0, hfb, hg0, hgb⟩ := solo_files HMP.out.dk HMP.out.solo
        cases cur with
        | true =>
          have HX := hide (show HsN true nCur (leB 1) S l from ⟨fun _ => ⟨rfl, rfl⟩, (fun h => by cases h), ⟨g0, hg0, hgb⟩, okCur, .inl rfl, by decide⟩)
          go_wp2_with fail
          go_meet
          case rel => exact ⟨nCur, leB 1, by first | trivial | rfl, HX, rfl⟩
        | false =>
          have HX := hide (show HsN false (mnm 1) (el l) S l from ⟨(fun h => by cases h), fun _ => ⟨rfl, rfl⟩, ⟨f0, hf0, hfb⟩, (mnm_okAll 1 (by decide)).1, .inr (.inr ⟨1, by decide, by decide, rfl⟩), by decide⟩)
          go_wp2_with fail
          go_meet
          case rel => exact ⟨mnm 1, el l, by first | trivial | (rw [mnm_one']; rfl), HX, rfl⟩
      case rest =>
        obtain ⟨s, zs, rfl, HN, rfl⟩ := hcut
        obtain ⟨f, hf, hfb⟩ := HN.out.f
        have rd : readS S s = (0, zs) := by rw [← hfb]; exact readS_at HMP.out.dk HC.out.2.2 HN.out.ok hf
        have hpos : 0 < zs.length := by
          cases cur with
          | true => rw [(HN.out.c rfl).2, leB13]; decide
          | false => rw [(HN.out.m rfl).2]; exact el_pos HMP.out.pos
        have hby : ByteL zs ∧ zs.length ≤ 250000 := by
          obtain ⟨F, h1, -⟩ := HKD.out
          exact held_bytes h1 rd
        obtain ⟨N, hN⟩ : ∃ n, zs.length = n := ⟨_, rfl⟩
        obtain ⟨k, hk, hk0⟩ : ∃ k : Nat, (bits .and .i64 at0 16777215).tmod (N : Int) = (k : Int) ∧ k < N := by
          have m0 : 0 ≤ bits .and .i64 at0 16777215 := (andi at0 16777215 (by decide)).1
          have m1 := Int.emod_nonneg (bits .and .i64 at0 16777215) (show (N : Int) ≠ 0 by omega)
          have m2 := Int.emod_lt_of_pos (bits .and .i64 at0 16777215) (show (0 : Int) < (N : Int) by omega)
          rw [Int.tmod_eq_emod_of_nonneg m0]
          exact ⟨(bits .and .i64 at0 16777215 % (N : Int)).toNat, by omega, by omega⟩
        obtain ⟨m, hm, hm0⟩ : ∃ m : Nat, (N : Int) - (bits .and .i64 cut0 255).tmod ((N : Int) + 1) = (m : Int) ∧ m ≤ N := by
          have m0 : 0 ≤ bits .and .i64 cut0 255 := (andi cut0 255 (by decide)).1
          rw [Int.tmod_eq_emod_of_nonneg m0]
          have m1 := Int.emod_nonneg (bits .and .i64 cut0 255) (show ((N : Int) + 1) ≠ 0 by omega)
          have m2 := Int.emod_lt_of_pos (bits .and .i64 cut0 255) (show (0 : Int) < (N : Int) + 1 by omega)
          exact ⟨((N : Int) - bits .and .i64 cut0 255 % ((N : Int) + 1)).toNat, by omega, by omega⟩
        obtain ⟨zk, hzk⟩ : ∃ z, zs.getD k 0 = z := ⟨_, rfl⟩
        obtain ⟨xk, hxk⟩ : ∃ z, bits BinOp.xor IntKind.u8 zk by0 = z := ⟨_, rfl⟩
        have hxr : 0 ≤ xk ∧ xk < 256 := by rw [← hxk]; exact xor_range _ _
        obtain ⟨ys, hys⟩ : ∃ l, (zs.set k xk).take m = l := ⟨_, rfl⟩
        have hyl : ys.length = m := by rw [← hys, List.length_take, List.length_set]; omega
        have hyb : ByteL ys := fun z hz => by
          rw [← hys] at hz
          rcases List.mem_or_eq_of_mem_set (List.mem_of_mem_take hz) with q | rfl
          · exact hby.1 z q
          · exact hxr
        have htN : zs.length ≤ 20000 := by
          cases cur with
          | true => rw [(HN.out.c rfl).2, leB13]; decide
          | false =>
            have e := (HN.out.m rfl).2
            have h1 : tot S ≤ 20000 := by omega
            have h2 := tot_at hf
            rw [hfb] at h2
            omega
        obtain ⟨S1', e1, hc1, D1, cl1, K1, l1, S2, e2, cl2, S3, e3, hc3, D3, cl3, q3, t3, K3, l3, hf'⟩ := calm_swap (zs := ys) HMP.out.dk HC.out HN.out.ok HN.out.okm hf (by omega) (by omega)
        have HOP := hide (fun (K : Nat → Prop) (W : World) (h : Kd K W R (if gone then S1' else S3)) => hs_open (n0 := 0) HMP.out HC.out hq (by omega) (by omega) HN.out hyb (by omega) k xk m hys.symm h hc1 D1 cl1 K1 l1 hc3 D3 cl3 q3 t3 K3 l3 hf')
        have hsz := HN.out.sz
        have RD := hide (kd_read s rd HKD.out (by omega))
        have E1 := hide e1
        have E2 := hide e2
        have E3 := hide e3
        have HYB := hide hyb
        have HBY := hide hby.1
        have HYS := hide hys
        have HZ := hide hzk
        clear rd hf hc1 D1 K1 l1 hc3 D3 K3 l3 hf' e1 e2 e3 hfb hyb
        have hN0 : ¬ ((N : Int) = 0) := by omega
        rw [hN] at RD
        go_wp2_with fail
        refine RD.out.mono ?_
        rintro e w4 ⟨ao, cp, rfl, ho, hb4⟩
        obtain ⟨g, cap, hv, hg1, hg2, hrm⟩ := rm_own (by rw [← hN] at ho; exact ho) hpos hby.1
        rw [hN] at hv
        injection hv with v1 v2 v3
        subst v1 v3
        have kd4 := HKD.out.wide hb4
        have RMV := hide (kd_remove s E1.out kd4 (by omega) (by omega))
        have HRM := hide hrm
        have HB4 := hide (HB.out.trans (hb4.mono HB.out.size))
        have hKg : g < wo.heap.size → False := fun h => by omega
        obtain ⟨KK, hKK⟩ : ∃ K : Nat → Prop, K = (fun i => i < we.heap.size ∨ (wo.heap.size ≤ i ∧ i < w4.heap.size)) := ⟨_, rfl⟩
        rw [← hKK] at RMV
        have KG : KK g := by rw [hKK]; exact .inr ⟨hg1, hg2⟩
        have KL : ∀ i, i < we.heap.size → KK i := fun i h => by rw [hKK]; exact .inl h
        have hgwe : we.heap.size ≤ g := Nat.le_trans HB.out.size hg1
        clear RD ho hb4 kd4 hrm hKK hKg
        go_wp2_with fail
        refine RMV.out.mono ?_
        rintro e w5 ⟨rfl, kd5, s5⟩
        have hrm5 := HRM.out.sameF s5 KG
        have HB5 := hide (HB4.out.trans (s5.below (B := we.heap.size) KL))
        have cv5 : (convert 42 9 (.slice (some ⟨g, 0, none⟩) N cp)).run Tryz.prog w5 = .ok (.string (strOfNums zs)) w5 := conv_bs (by have := rm_cut hrm5 N (by omega); rwa [List.take_of_length_le (by omega)] at this)
        have hcp := hrm5.le
        have ck : w5.cell? ⟨g, k, none⟩ = some (.int .u8 zk) := by rw [← HZ.out]; exact hrm5.cell k (by omega)
        have fk : w5.frozen? ⟨g, k, none⟩ = false := hrm5.free k (by omega)
        have hkb : (0 : Int) ≤ (k : Int) ∧ (k : Int) < (N : Int) := ⟨by omega, by omega⟩
        have hmb : (0 : Int) ≤ (m : Int) ∧ (m : Int) ≤ (cp : Int) := ⟨by omega, by omega⟩
        have hb6 : Below we.heap.size we (w5.setCell ⟨g, k, none⟩ (.int .u8 xk)) := HB5.out.trans ((Ch.set (P := (· = g)) w5 ⟨g, k, none⟩ (.int .u8 xk) rfl).below HB5.out.size (fun i hi => by subst hi; exact hgwe))
        have HS := hide (And.intro (kd5.set ⟨g, k, none⟩ (.int .u8 xk) KG) (And.intro (hrm5.set k (by omega) xk hxr) hb6))
        clear RMV s5 kd5 hrm5 HRM HB4 HB5 hb6 hgwe
        go_upto_region 20 with fail
        obtain ⟨w6, hw6⟩ : ∃ x, w5.setCell ⟨g, k, none⟩ (.int .u8 xk) = x := ⟨_, rfl⟩
        obtain ⟨kd6, rm6, hb6⟩ := HS.out
        rw [hw6] at kd6 rm6 hb6 ⊢
        clear HS hw6 ck fk cv5
        have HB6 := hide hb6
        clear hb6
        cases gone with
        | true =>
          have OP := hide (HOP.out KK w6 (by simpa using kd6))
          clear HOP kd6 rm6 E2 E3
          go_wp2_with fail
          refine OP.out.mono ?_
          rintro e w7 ⟨x, mk, ⟨s7, hres⟩, o1, o2, -, -, -⟩
          have HB7 := hide (HB6.out.trans (s7.below (B := we.heap.size) KL))
          clear OP s7
          rcases hres with ⟨rfl, rfl, hx⟩ | ⟨rfl, rfl, -⟩
          · cases cur with
            | true =>
              obtain rfl := o1 rfl rfl
              clear o1 o2 hx
              have HBX := HB7
              go_wp2_with fail
              refine (AW.out _).mono ?_
              rintro e wl ⟨rfl, hbl⟩
              have HBL := hide (HBE.out.trans ((HBX.out.trans (hbl.mono HBX.out.size)).mono HBE.out.size))
              clear AW hbl
              go_wp2
              go_ret
              exact ⟨rfl, HBL.out⟩
            | false =>
              obtain rfl := o2 rfl rfl
              clear o1 o2 hx
              have HBX := HB7
              go_wp2_with fail
              refine (AW.out _).mono ?_
              rintro e wl ⟨rfl, hbl⟩
              have HBL := hide (HBE.out.trans ((HBX.out.trans (hbl.mono HBX.out.size)).mono HBE.out.size))
              clear AW hbl
              go_wp2
              go_ret
              exact ⟨rfl, HBL.out⟩
          · exfalso
            cases cur with
            | true => have := o1 rfl rfl; omega
            | false => have := o2 rfl rfl; omega
        | false =>
          have CR := hide (kd_create s E2.out kd6 (by omega) (by omega))
          have RM6 := hide rm6
          clear kd6 rm6 E2
          go_wp2_with fail
          refine CR.out.mono ?_
          rintro e w7 ⟨rfl, kd7, s7⟩
          have rm7 := RM6.out.sameF s7 KG
          have hbs7 := rm_cut rm7 m (by rw [List.length_set]; omega)
          rw [HYS.out] at hbs7
          have AP := hide (kd_append' s (some ⟨g, 0, none⟩) m cp ys E3.out kd7 (by omega) (by omega) hbs7 (by omega) (fun b off h => by injection h with h; injection h with h1 _ _; rw [← h1]; exact KG))
          have HB7 := hide (HB6.out.trans (s7.below (B := we.heap.size) KL))
          have RM7 := hide rm7
          clear CR kd7 s7 rm7 hbs7 E3 RM6 HB6
          go_wp2_with fail
          refine AP.out.mono ?_
          rintro e w8 ⟨rfl, kd8, s8⟩
          have HB8 := hide (HB7.out.trans (s8.below (B := we.heap.size) KL))
          have RM8 := hide (RM7.out.sameF s8 KG)
          have OP := hide (HOP.out KK w8 (by simpa using kd8))
          clear AP kd8 s8 RM7 HB7 HOP
          obtain ⟨sm, hsm⟩ : ∃ o, decide (ys = zs) = o := ⟨_, rfl⟩
          have es : ((strOfNums ys).toList == (strOfNums zs).toList) = sm := by rw [str_eq ys zs HYB.out HBY.out, hsm]
          rw [hsm] at OP
          clear hsm
          generalize strOfNums zs = Z at *
          go_wp2_with fail
          refine OP.out.mono ?_
          rintro e w9 ⟨x, mk, ⟨s9, hres⟩, -, -, o3, o4, o5⟩
          have HB9 := hide (HB8.out.trans (s9.below (B := we.heap.size) KL))
          have rm9 := RM8.out.sameF s9 KG
          have cv9 : (convert 42 9 (.slice (some ⟨g, 0, none⟩) m cp)).run Tryz.prog w9 = .ok (.string (strOfNums ys)) w9 := conv_bs (by have := rm_cut rm9 m (by rw [List.length_set]; omega); rwa [HYS.out] at this)
          generalize strOfNums ys = Y at *
          clear OP s9 rm9 RM8 HB8
          rcases hres with ⟨rfl, rfl, hx⟩ | ⟨rfl, rfl, M2, n2, c2, V, S9, rfl, kf, hvk⟩
          · obtain rfl : x = 9 := by have := o5 rfl; omega
            clear o3 o4 o5 hx
            cases cur with
            | true =>
              cases sm with
              | true =>
                have HBX := HB9
                go_wp2_with fail
                refine (AW.out _).mono ?_
                rintro e wl ⟨rfl, hbl⟩
                have HBL := hide (HBE.out.trans ((HBX.out.trans (hbl.mono HBX.out.size)).mono HBE.out.size))
                clear AW hbl
                go_wp2
                go_ret
                exact ⟨rfl, HBL.out⟩
              | false =>
                have HBX := HB9
                go_wp2_with fail
                refine (AW.out _).mono ?_
                rintro e wl ⟨rfl, hbl⟩
                have HBL := hide (HBE.out.trans ((HBX.out.trans (hbl.mono HBX.out.size)).mono HBE.out.size))
                clear AW hbl
                go_wp2
                go_ret
                exact ⟨rfl, HBL.out⟩
            | false =>
              have HBX := HB9
              go_wp2_with fail
              refine (AW.out _).mono ?_
              rintro e wl ⟨rfl, hbl⟩
              have HBL := hide (HBE.out.trans ((HBX.out.trans (hbl.mono HBX.out.size)).mono HBE.out.size))
              clear AW hbl
              go_wp2
              go_ret
              exact ⟨rfl, HBL.out⟩
          · cases cur with
            | true =>
              cases sm with
              | true =>
                clear o3 o4 o5
                have hv40 : V.f.length ≤ 100000 := by
                  have := (good_once (.inr hvk)).2
                  omega
                have VW := hide (km_view kf hv40)
                obtain ⟨NV, hNV⟩ : ∃ n, V.f.length = n := ⟨_, rfl⟩
                unfold vwV at VW
                rw [hNV] at VW
                have HVK := hide hvk
                have hnv : NV ≤ 9223372036854775807 := by omega
                clear kf hvk hNV
                go_wp2_with fail
                refine VW.out.mono ?_
                rintro e wv ⟨av2, cv2, rfl, -, fv, -, hbv⟩
                have HBV := hide (HB9.out.trans (hbv.mono HB9.out.size))
                have VO := hide (viewok_any av2 NV cv2 V wv fv hnv)
                rw [HVK.out] at VO
                unfold vwV at VO
                clear VW fv hbv
                go_wp2_with fail
                refine VO.out.mono ?_
                rintro e wu ⟨rfl, hbu⟩
                have HBU := hide (HBV.out.trans (hbu.mono HBV.out.size))
                clear VO hbu
                have HBX := HBU
                go_wp2_with fail
                refine (AW.out _).mono ?_
                rintro e wl ⟨rfl, hbl⟩
                have HBL := hide (HBE.out.trans ((HBX.out.trans (hbl.mono HBX.out.size)).mono HBE.out.size))
                clear AW hbl
                go_wp2
                go_ret
                exact ⟨rfl, HBL.out⟩
              | false => exfalso; have := o3 rfl rfl rfl; omega
            | false =>
              clear o3 o4 o5
              have hv40 : V.f.length ≤ 100000 := by
                have := (good_once (.inr hvk)).2
                omega
              have VW := hide (km_view kf hv40)
              obtain ⟨NV, hNV⟩ : ∃ n, V.f.length = n := ⟨_, rfl⟩
              unfold vwV at VW
              rw [hNV] at VW
              have HVK := hide hvk
              have hnv : NV ≤ 9223372036854775807 := by omega
              clear kf hvk hNV
              go_wp2_with fail
              refine VW.out.mono ?_
              rintro e wv ⟨av2, cv2, rfl, -, fv, -, hbv⟩
              have HBV := hide (HB9.out.trans (hbv.mono HB9.out.size))
              have VO := hide (viewok_any av2 NV cv2 V wv fv hnv)
              rw [HVK.out] at VO
              unfold vwV at VO
              clear VW fv hbv
              go_wp2_with fail
              refine VO.out.mono ?_
              rintro e wu ⟨rfl, hbu⟩
              have HBU := hide (HBV.out.trans (hbu.mono HBV.out.size))
              clear VO hbu
              have HBX := HBU
              go_wp2_with fail
              refine (AW.out _).mono ?_
              rintro e wl ⟨rfl, hbl⟩
              have HBL := hide (HBE.out.trans ((HBX.out.trans (hbl.mono HBX.out.size)).mono HBE.out.size))
              clear AW hbl
              go_wp2
              go_ret
              exact ⟨rfl, HBL.out⟩

end Go.Proofs.YtcahlmneancapabGreatDoor.Clep
