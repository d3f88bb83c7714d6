/- The statement EditWhole, walked: for any row of Edits and any number. No conditions. -/
import Derived.Test.YtgopcaemgcnapaaEWholeM
import Derived.Test.YtgopcaemgcnapaaEAwake
import Derived.Test.YtgopcaemgcnapaaESameE
import Derived.Test.YtgopcaemgcnapaaEPick
import Derived.Test.YtgopcaemgcnapaaEAnd
namespace Go.Proofs.Ytgopcaemgcnapaa.Clep
open Go.RowKit
set_option linter.unusedVariables false
set_option maxRecDepth 10000

/-- The block P holds the View V, its files a row made since. -/
def Vin (W : World) (P : Nat) (V : Vw) : Prop := ∃ a c, Ek W P #[.int .i64 V.lg, .slice a V.f.length c, .int .u64 V.fl, .int .u64 V.ct, .int .u64 V.at9, .int .u64 V.ls] 26 ∧ c ≤ 9223372036854775807 ∧ OwnF W (P + 1) (.slice a V.f.length c) V.f ∧ ∀ x ∈ V.f, x.wf
theorem Vin.below {W W' : World} {P : Nat} {V : Vw} (h : Vin W P V) (hb : Below W.heap.size W W') : Vin W' P V := by
  obtain ⟨a, c, h1, h2, h3, h4⟩ := h
  exact ⟨a, c, h1.below hb h1.lt, h2, ownF_keep h3 hb, h4⟩
theorem vin_zero (w : World) : Vin (w.alloc (Obj.cells #[.int .i64 0, .slice none 0 0, .int .u64 0, .int .u64 0, .int .u64 0, .int .u64 0] 26)) w.heap.size zV := ⟨none, 0, ek_new w _ _, by omega, ownF_nil _ _, fun x hx => by cases hx⟩

theorem zs_two {w : World} {p : Nat} {N : Int} (hw : -9223372036854775808 ≤ N ∧ N ≤ 9223372036854775807) (h : w.heap[p]? = some (.cells #[.int .i64 N, .int .i64 N] 3)) : Zs w (some ⟨p, 0, none⟩) 2 2 [N, N] := by
  refine ⟨rfl, ⟨Nat.le_refl _, fun h => by cases h⟩, fun x hx => ?_, fun _ => ⟨p, 0, rfl, fun i x hi => ?_⟩⟩
  · simp at hx
    rw [hx]
    exact hw
  · match i, hi with
    | 0, hi => simp at hi; subst hi; simp [World.cell?, h]
    | 1, hi => simp at hi; subst hi; simp [World.cell?, h]
    | k + 2, hi => simp at hi
set_option maxHeartbeats 8000000 in
theorem whole_walk (ao : Option Addr) (len cap : Nat) (l : List Er) (wh : Int) (w : World) (h : Es w ao len cap l) (hlen : len ≤ 9223372036854775807) :
    Calls Try.prog 8 #[.slice ao len cap, .int .i64 wh] w fun e w' => e = .returned (.bool true) ∧ Below w.heap.size w w' := by
  have HE := hide (fun W (hW : Below w.heap.size w W) => h.below hW (Nat.le_refl _))
  have HA := hide awake_any
  clear h
  go_enter Try.func8, Try.ntmps8
  go_wp2_with fail
  go_loopw [6] (fun s wr => ∃ i : Nat, i ≤ len ∧ i ≤ 20 ∧ s = .int .i64 i ∧ Hid (∃ V, Vin wr w.heap.size V ∧ goodV V) ∧ Hid (Below w.heap.size w wr)) (fun s _ => 20 - (intOf s).toNat)
  case atStart => exact ⟨0, by omega, by omega, rfl, hide ⟨zV, vin_zero w, .inl rfl⟩, hide ((Below.refl _ w).alloc (Nat.le_refl _) _)⟩
  case round =>
    obtain ⟨i, hi, hi20, rfl, hV, hB⟩ := hrel
    by_cases hlt : i < len ∧ i < 20
    · obtain ⟨hl1, hl2⟩ := hlt
      obtain ⟨y, b, off, hy, rfl, hyo, c0, c1, c2, c3, c4, c5, c6⟩ := es_at (HE.out wr hB.out) i hl1
      obtain ⟨V, hvin, hgV⟩ := hV.out
      obtain ⟨av, cv, hek, hcv, how, hwf⟩ := hvin
      have HYO := hide hyo
      have HGV := hide hgV
      have hdn := hyo.1.2
      have han := hyo.2.1.2
      have q1 : (i : Int) < (len : Int) := by omega
      have q2 : (i : Int) < 20 := by omega
      obtain ⟨nV, hnV⟩ : ∃ n, V.f.length = n := ⟨_, rfl⟩
      rw [hnV] at hek how
      have HNV := hide hnV
      have HEKV := hide hek
      have HOWV := hide how
      have HWFV := hide hwf
      have HCF := hide (fun W => few_any y.da y.aa y.dn y.dc y.an y.ac y.E W hdn han)
      unfold edV at HCF
      obtain ⟨of, hof⟩ : ∃ o, decide (y.dn ≤ 60 ∧ y.an ≤ 60) = o := ⟨_, rfl⟩
      rw [hof] at HCF
      have HYL := hide (show of = true → y.dn ≤ 60 ∧ y.an ≤ 60 from fun e => of_decide_eq_true (hof.trans e))
      have HYC := hide (fun W (hW : Below wr.heap.size wr W) => And.intro ((hW.cell (p := ⟨b, off + i * 7, none⟩) (World.block_lt_of_cell? wr _ c0)).trans c0) (And.intro ((hW.cell (p := ⟨b, off + i * 7 + 1, none⟩) (World.block_lt_of_cell? wr _ c1)).trans c1) (And.intro ((hW.cell (p := ⟨b, off + i * 7 + 2, none⟩) (World.block_lt_of_cell? wr _ c2)).trans c2) (And.intro ((hW.cell (p := ⟨b, off + i * 7 + 3, none⟩) (World.block_lt_of_cell? wr _ c3)).trans c3) (And.intro ((hW.cell (p := ⟨b, off + i * 7 + 4, none⟩) (World.block_lt_of_cell? wr _ c4)).trans c4) (And.intro ((hW.cell (p := ⟨b, off + i * 7 + 5, none⟩) (World.block_lt_of_cell? wr _ c5)).trans c5) ((hW.cell (p := ⟨b, off + i * 7 + 6, none⟩) (World.block_lt_of_cell? wr _ c6)).trans c6)))))))
      clear hek how hwf hgV hyo hy hnV hof hV hdn han
      go_wp2_with fail
      refine (HCF.out _).mono ?_
      rintro e w1 ⟨rfl, hb1⟩
      have B1 := hide (hB.out.trans (hb1.mono hB.out.size))
      have HB1 := hide hb1
      clear hb1 HCF c0 c1 c2 c3 c4 c5 c6
      cases of with
      | false =>
        clear HYL
        go_wp2_with (go_at_call 13; refine (HA.out _).mono ?_; rintro e w6 ⟨rfl, hb6⟩)
        go_ret
        exact ⟨rfl, B1.out.trans (hb6.mono B1.out.size)⟩
      | true =>
        have hyl := HYL.out (by first | rfl | trivial)
        obtain ⟨r, hr⟩ : ∃ r, appl V y.E = r := ⟨_, rfl⟩
        have HR := hide hr
        have HVW := hide (show ∀ W, Below w1.heap.size w1 W → Ek W w.heap.size #[.int .i64 V.lg, .slice av nV cv, .int .u64 V.fl, .int .u64 V.ct, .int .u64 V.at9, .int .u64 V.ls] 26 from fun W hW => (HEKV.out.below HB1.out HEKV.out.lt).below hW (Nat.lt_of_lt_of_le HEKV.out.lt HB1.out.size))
        have HYC := hide (fun W (hW : Below w1.heap.size w1 W) => HYC.out W (HB1.out.trans (hW.mono HB1.out.size)))
        have CA := hide (show ∀ W, Below w1.heap.size w1 W → Calls Try.prog 9 #[.agg #[.int .i64 V.lg, .slice av nV cv, .int .u64 V.fl, .int .u64 V.ct, .int .u64 V.at9, .int .u64 V.ls], .agg #[.slice y.da y.dn y.dc, .slice y.aa y.an y.ac, .int .i64 y.E.lg, .int .u64 y.E.fl, .int .u64 y.E.ct, .int .u64 y.E.at9, .int .u64 y.E.ls]] W fun e w' => ∃ a c, e = .returned (.tuple #[.agg #[.int .i64 (apv r).lg, .slice a (apv r).f.length c, .int .u64 (apv r).fl, .int .u64 (apv r).ct, .int .u64 (apv r).at9, .int .u64 (apv r).ls], .bool r.isSome]) ∧ c ≤ 9223372036854775807 ∧ OwnF w' W.heap.size (.slice a (apv r).f.length c) (apv r).f ∧ Below W.heap.size W w' from fun W hW => by
          have hW2 : Below wr.heap.size wr W := HB1.out.trans (hW.mono HB1.out.size)
          have hyo := HYO.out.below hW2 (Nat.le_refl _)
          have hown := ownF_keep HOWV.out hW2
          have hfv := (ownF_fsN hown HWFV.out HNV.out).2
          have hg := good_once HGV.out
          refine (apply_any av y.da y.aa nV cv y.dn y.dc y.an y.ac V y.E W hfv hyo.1.1 hyo.2.1.1 (by have := HNV.out; omega) (by omega) (by omega) hg.1).mono fun e w' h => ?_
          rw [hr] at h
          obtain ⟨a, c, h1, h2, h3, h4, h5⟩ := apr_any h
          exact ⟨a, c, h1, h2, h3, h5⟩)
        have HWX := hide (show ∀ x ∈ (apv r).f, x.wf from fun x hx => by
          cases hrr : r with
          | none => rw [hrr] at hx; cases hx
          | some X =>
            rw [hrr] at hx hr
            have hv := appl_vok hr
            have := List.all_eq_true.1 (vok_parts2 hv).2.1 x hx
            unfold Fi.ok at this
            have h9 := of_decide_eq_true this
            unfold Fi.wf
            omega)
        have HGX := hide (show r.isSome = true → goodV (apv r) from fun e => by
          cases hrr : r with
          | none => rw [hrr] at e; cases e
          | some X => rw [hrr] at hr; exact .inr (appl_vok hr))
        clear hr HYO HYL
        generalize apv r = X at *
        generalize r.isSome = o at *
        obtain ⟨N, hN⟩ : ∃ N, X.f.length = N := ⟨_, rfl⟩
        have HN := hide hN
        rw [hN] at CA
        clear hN HR r
        go_wp2_with fail
        refine region_si (PTh w1.heap.size (.agg #[.int .i64 V.lg, .slice av nV cv, .int .u64 V.fl, .int .u64 V.ct, .int .u64 V.at9, .int .u64 V.ls]) (some ⟨b, off, none⟩) len cap i b off (.agg #[.slice y.da y.dn y.dc, .slice y.aa y.an y.ac, .int .i64 y.E.lg, .int .u64 y.E.fl, .int .u64 y.E.ct, .int .u64 y.E.at9, .int .u64 y.E.ls]) N X o) (PG w1) (by kernel_rfl) (by kernel_rfl) (by kernel_rfl) ?start ?step ?fin
        case start => exact ⟨(Below.refl _ w1).drew, fun e => (by cases e)⟩
        case step =>
          intro L A W i_ hI hi hLi hw
          have hi2 : i_ < 12 := hi
          rcases (show i_ = 0 ∨ i_ = 1 ∨ i_ = 2 ∨ i_ = 3 ∨ i_ = 4 ∨ i_ = 5 ∨ i_ = 6 ∨ i_ = 7 ∨ i_ = 8 ∨ i_ = 9 ∨ i_ = 10 ∨ i_ = 11 by omega) with rfl | rfl | rfl | rfl | rfl | rfl | rfl | rfl | rfl | rfl | rfl | rfl
          · have e0 := hI.kept 5 _ (by decide +kernel) rfl
            have c0 : W.cell? ⟨w.heap.size, 0, none⟩ = some (.int .i64 V.lg) := (HVW.out W hI.g.1).cell rfl
            have c1 : W.cell? ⟨w.heap.size, 1, none⟩ = some (.slice av nV cv) := (HVW.out W hI.g.1).cell rfl
            have c2 : W.cell? ⟨w.heap.size, 2, none⟩ = some (.int .u64 V.fl) := (HVW.out W hI.g.1).cell rfl
            have c3 : W.cell? ⟨w.heap.size, 3, none⟩ = some (.int .u64 V.ct) := (HVW.out W hI.g.1).cell rfl
            have c4 : W.cell? ⟨w.heap.size, 4, none⟩ = some (.int .u64 V.at9) := (HVW.out W hI.g.1).cell rfl
            have c5 : W.cell? ⟨w.heap.size, 5, none⟩ = some (.int .u64 V.ls) := (HVW.out W hI.g.1).cell rfl
            refine hI.pure (by kernel_rfl) (by decide +kernel) (i := 0) (d := 38) rfl rfl rfl (v := .agg #[.int .i64 V.lg, .slice av nV cv, .int .u64 V.fl, .int .u64 V.ct, .int .u64 V.at9, .int .u64 V.ls]) (rfl) (fun j u _ _ h => pth_keep (upd10 (by decide)) (Below.refl _ _) j u h) (pg_upd 0 (by decide) hI.g) ?_
            intro K hKK
            go_simp
            exact hKK
          · have e0 := hI.kept 0 _ (by decide +kernel) rfl
            refine hI.pure (by kernel_rfl) (by decide +kernel) (i := 1) (d := 39) rfl rfl rfl (v := .slice (some ⟨b, off, none⟩) len cap) (rfl) (fun j u _ _ h => pth_keep (upd10 (by decide)) (Below.refl _ _) j u h) (pg_upd 1 (by decide) hI.g) ?_
            intro K hKK
            go_simp
            exact hKK
          · have e0 := hI.kept 6 _ (by decide +kernel) rfl
            refine hI.pure (by kernel_rfl) (by decide +kernel) (i := 2) (d := 40) rfl rfl rfl (v := .int .i64 (i : Int)) (rfl) (fun j u _ _ h => pth_keep (upd10 (by decide)) (Below.refl _ _) j u h) (pg_upd 2 (by decide) hI.g) ?_
            intro K hKK
            go_simp
            exact hKK
          · obtain ⟨_, e0, rfl⟩ := hI.val 1 39 (by decide +kernel) (hw 1 (by kernel_rfl)) (by kernel_rfl)
            obtain ⟨_, e1, rfl⟩ := hI.val 2 40 (by decide +kernel) (hw 2 (by kernel_rfl)) (by kernel_rfl)
            refine hI.pure (by kernel_rfl) (by decide +kernel) (i := 3) (d := 41) rfl rfl rfl (v := .pointer (some ⟨b, off + i * 7, none⟩)) (rfl) (fun j u _ _ h => pth_keep (upd10 (by decide)) (Below.refl _ _) j u h) (pg_upd 3 (by decide) hI.g) ?_
            intro K hKK
            go_simp
            exact hKK
          · obtain ⟨_, e0, rfl⟩ := hI.val 3 41 (by decide +kernel) (hw 3 (by kernel_rfl)) (by kernel_rfl)
            obtain ⟨c0, c1, c2, c3, c4, c5, c6⟩ := HYC.out W hI.g.1
            refine hI.pure (by kernel_rfl) (by decide +kernel) (i := 4) (d := 42) rfl rfl rfl (v := .agg #[.slice y.da y.dn y.dc, .slice y.aa y.an y.ac, .int .i64 y.E.lg, .int .u64 y.E.fl, .int .u64 y.E.ct, .int .u64 y.E.at9, .int .u64 y.E.ls]) (rfl) (fun j u _ _ h => pth_keep (upd10 (by decide)) (Below.refl _ _) j u h) (pg_upd 4 (by decide) hI.g) ?_
            intro K hKK
            go_simp
            exact hKK
          · obtain ⟨_, e0, rfl⟩ := hI.val 0 38 (by decide +kernel) (hw 0 (by kernel_rfl)) (by kernel_rfl)
            obtain ⟨_, e1, rfl⟩ := hI.val 4 42 (by decide +kernel) (hw 4 (by kernel_rfl)) (by kernel_rfl)
            have h10 := pg10 hI.g (i := 5) (by decide) (by decide) hLi
            refine hI.more (by kernel_rfl) (by decide +kernel) (i := 5) (d := 43) rfl rfl rfl ?_
            intro K hKK
            go_simp
            refine (CA.out W hI.g.1).mono ?_
            rintro e W' ⟨a', c', rfl, hc', ho', hb'⟩
            exact hKK _ _ ⟨a', c', rfl, hc', fun _ => ownF_base ho' hI.g.1.size⟩ (fun j u _ _ h => pth_keep (upd10 (by decide)) hb' j u h) (pg_upd 5 (by decide) (pg_below hI.g hb'))
          · obtain ⟨_, e0, a', c', rfl, hc', ho'⟩ := hI.val 5 43 (by decide +kernel) (hw 5 (by kernel_rfl)) (by kernel_rfl)
            refine hI.pure (by kernel_rfl) (by decide +kernel) (i := 6) (d := 37) rfl rfl rfl (v := .tuple #[.agg #[.int .i64 X.lg, .slice a' N c', .int .u64 X.fl, .int .u64 X.ct, .int .u64 X.at9, .int .u64 X.ls], .bool o]) (⟨a', c', rfl, hc', fun e => ho' ((upd10 (L := L) (i := 6) (by decide)).symm.trans e)⟩) (fun j u _ _ h => pth_keep (upd10 (by decide)) (Below.refl _ _) j u h) (pg_upd 6 (by decide) hI.g) ?_
            intro K hKK
            go_simp
            exact hKK
          · obtain ⟨_, e0, a', c', rfl, hc', ho'⟩ := hI.val 6 37 (by decide +kernel) (hw 6 (by kernel_rfl)) (by kernel_rfl)
            refine hI.pure (by kernel_rfl) (by decide +kernel) (i := 7) (d := 44) rfl rfl rfl (v := .agg #[.int .i64 X.lg, .slice a' N c', .int .u64 X.fl, .int .u64 X.ct, .int .u64 X.at9, .int .u64 X.ls]) (⟨a', c', rfl, hc', fun e => ho' ((upd10 (L := L) (i := 7) (by decide)).symm.trans e)⟩) (fun j u _ _ h => pth_keep (upd10 (by decide)) (Below.refl _ _) j u h) (pg_upd 7 (by decide) hI.g) ?_
            intro K hKK
            go_simp
            exact hKK
          · obtain ⟨_, e0, a', c', rfl, hc', ho'⟩ := hI.val 6 37 (by decide +kernel) (hw 6 (by kernel_rfl)) (by kernel_rfl)
            refine hI.pure (by kernel_rfl) (by decide +kernel) (i := 8) (d := 45) rfl rfl rfl (v := .bool o) (rfl) (fun j u _ _ h => pth_keep (upd10 (by decide)) (Below.refl _ _) j u h) (pg_upd 8 (by decide) hI.g) ?_
            intro K hKK
            go_simp
            exact hKK
          · have h10 := pg10 hI.g (i := 9) (by decide) (by decide) hLi
            refine hI.more (by kernel_rfl) (by decide +kernel) (i := 9) (d := 7) rfl rfl rfl ?_
            intro K hKK
            have A := (Below.refl _ W).alloc (Nat.le_refl _) (Obj.cells #[.int .i64 0, .slice none 0 0, .int .u64 0, .int .u64 0, .int .u64 0, .int .u64 0] 26)
            go_simp
            exact hKK _ _ ⟨W.heap.size, rfl, hI.g.1.size, fun _ => ek_new W _ _, fun e => (by rw [upd10 (by decide), h10] at e; cases e)⟩ (fun j u _ _ h => pth_keep (upd10 (by decide)) A j u h) (pg_upd 9 (by decide) (pg_below hI.g A))
          · obtain ⟨_, e0, a', c', rfl, hc', ho'⟩ := hI.val 7 44 (by decide +kernel) (hw 7 (by kernel_rfl)) (by kernel_rfl)
            obtain ⟨_, e1, p, rfl, hHp, hz, _⟩ := hI.val 9 7 (by decide +kernel) (hw 9 (by kernel_rfl)) (by kernel_rfl)
            have ho' := ho' hLi
            have hz := hz hLi
            refine hI.store (by decide +kernel) (i := 10) rfl rfl rfl ?_
            intro K hKK
            have z0 : W.cell? ⟨p, 0, none⟩ = some (.int .i64 0) := hz.cell rfl
            have y0 := hz.free 0
            have z1 : W.cell? ⟨p, 1, none⟩ = some (.slice none 0 0) := hz.cell rfl
            have y1 := hz.free 1
            have z2 : W.cell? ⟨p, 2, none⟩ = some (.int .u64 0) := hz.cell rfl
            have y2 := hz.free 2
            have z3 : W.cell? ⟨p, 3, none⟩ = some (.int .u64 0) := hz.cell rfl
            have y3 := hz.free 3
            have z4 : W.cell? ⟨p, 4, none⟩ = some (.int .u64 0) := hz.cell rfl
            have y4 := hz.free 4
            have z5 : W.cell? ⟨p, 5, none⟩ = some (.int .u64 0) := hz.cell rfl
            have y5 := hz.free 5
            have HZ := hide hz
            have HOW := hide ho'
            clear hz ho'
            go_simp
            have hg := egrow (k := 5) (u := .int .u64 X.ls) (egrow (k := 4) (u := .int .u64 X.at9) (egrow (k := 3) (u := .int .u64 X.ct) (egrow (k := 2) (u := .int .u64 X.fl) (egrow (k := 1) (u := .slice a' N c') (fgb_set W ⟨p, 0, none⟩ (.int .i64 X.lg))))))
            have hzz := (((((HZ.out.set 0 (.int .i64 X.lg)).set 1 (.slice a' N c')).set 2 (.int .u64 X.fl)).set 3 (.int .u64 X.ct)).set 4 (.int .u64 X.at9)).set 5 (.int .u64 X.ls)
            have how2 := ownF_far HOW.out hg (own_not_view HOW.out HZ.out)
            refine hKK _ (fun j e u _ _ hde hu h => pth_store (upd_same _ _) j u (fun hj => ?_) h) ⟨hI.g.1.grown hg hI.g.1.size (fun k hk => by cases hk; exact hHp), fun _ j hj h8 => upd_more (hw j (waits_but (k := 8) (by kernel_rfl) j hj h8))⟩
            subst hj
            have he : some e = some 7 := hde.symm.trans (by kernel_rfl)
            cases he
            rw [e1] at hu
            cases hu
            exact ⟨p, rfl, hHp, fun e => (by rw [upd_same] at e; cases e), fun _ => ⟨a', c', hzz, hc', how2⟩⟩
          · obtain ⟨_, e0, rfl⟩ := hI.val 8 45 (by decide +kernel) (hw 8 (by kernel_rfl)) (by kernel_rfl)
            refine hI.pure (by kernel_rfl) (by decide +kernel) (i := 11) (d := 8) rfl rfl rfl (v := .bool o) (rfl) (fun j u _ _ h => pth_keep (upd10 (by decide)) (Below.refl _ _) j u h) (pg_upd 11 (by decide) hI.g) ?_
            intro K hKK
            go_simp
            exact hKK
        case fin =>
          intro L A W hI hall
          obtain ⟨_, s0, rfl⟩ := hI.val 0 38 (by decide +kernel) (hall 0 (by decide +kernel)) (by kernel_rfl)
          obtain ⟨_, s1, rfl⟩ := hI.val 1 39 (by decide +kernel) (hall 1 (by decide +kernel)) (by kernel_rfl)
          obtain ⟨_, s2, rfl⟩ := hI.val 2 40 (by decide +kernel) (hall 2 (by decide +kernel)) (by kernel_rfl)
          obtain ⟨_, s3, rfl⟩ := hI.val 3 41 (by decide +kernel) (hall 3 (by decide +kernel)) (by kernel_rfl)
          obtain ⟨_, s4, rfl⟩ := hI.val 4 42 (by decide +kernel) (hall 4 (by decide +kernel)) (by kernel_rfl)
          obtain ⟨_, s5, aq, cq, rfl, _, _⟩ := hI.val 5 43 (by decide +kernel) (hall 5 (by decide +kernel)) (by kernel_rfl)
          obtain ⟨_, s6, ar, cr, rfl, _, _⟩ := hI.val 6 37 (by decide +kernel) (hall 6 (by decide +kernel)) (by kernel_rfl)
          obtain ⟨_, s7, ay, cy, rfl, _, _⟩ := hI.val 7 44 (by decide +kernel) (hall 7 (by decide +kernel)) (by kernel_rfl)
          obtain ⟨_, s8, rfl⟩ := hI.val 8 45 (by decide +kernel) (hall 8 (by decide +kernel)) (by kernel_rfl)
          obtain ⟨_, s9, p, rfl, hHp, _, hp2⟩ := hI.val 9 7 (by decide +kernel) (hall 9 (by decide +kernel)) (by kernel_rfl)
          obtain ⟨_, s11, rfl⟩ := hI.val 11 8 (by decide +kernel) (hall 11 (by decide +kernel)) (by kernel_rfl)
          have hfr := si_frame hI [(38, .agg #[.int .i64 V.lg, .slice av nV cv, .int .u64 V.fl, .int .u64 V.ct, .int .u64 V.at9, .int .u64 V.ls]), (39, .slice (some ⟨b, off, none⟩) len cap), (40, .int .i64 (i : Int)), (41, .pointer (some ⟨b, off + i * 7, none⟩)), (42, .agg #[.slice y.da y.dn y.dc, .slice y.aa y.an y.ac, .int .i64 y.E.lg, .int .u64 y.E.fl, .int .u64 y.E.ct, .int .u64 y.E.at9, .int .u64 y.E.ls]), (43, .tuple #[.agg #[.int .i64 X.lg, .slice aq N cq, .int .u64 X.fl, .int .u64 X.ct, .int .u64 X.at9, .int .u64 X.ls], .bool o]), (37, .tuple #[.agg #[.int .i64 X.lg, .slice ar N cr, .int .u64 X.fl, .int .u64 X.ct, .int .u64 X.at9, .int .u64 X.ls], .bool o]), (44, .agg #[.int .i64 X.lg, .slice ay N cy, .int .u64 X.fl, .int .u64 X.ct, .int .u64 X.at9, .int .u64 X.ls]), (45, .bool o), (7, .pointer (some ⟨p, 0, none⟩)), (8, .bool o)] (by kernel_rfl) (List.forall_mem_cons.2 ⟨s0, (List.forall_mem_cons.2 ⟨s1, (List.forall_mem_cons.2 ⟨s2, (List.forall_mem_cons.2 ⟨s3, (List.forall_mem_cons.2 ⟨s4, (List.forall_mem_cons.2 ⟨s5, (List.forall_mem_cons.2 ⟨s6, (List.forall_mem_cons.2 ⟨s7, (List.forall_mem_cons.2 ⟨s8, (List.forall_mem_cons.2 ⟨s9, (List.forall_mem_cons.2 ⟨s11, (by intro x hx; cases hx)⟩)⟩)⟩)⟩)⟩)⟩)⟩)⟩)⟩)⟩)⟩)
          obtain ⟨ax, cx, hekx, hcx, hox⟩ := hp2 (hall 10 (by decide +kernel))
          have hbx := hI.g.1
          rw [hfr]
          clear hfr hI hall hp2 s0 s1 s2 s3 s4 s5 s6 s7 s8 s9 s11
          simp only [List.foldl, List.setIfInBounds_toArray, List.set_cons_zero, List.set_cons_succ]
          have HEKX := hide hekx
          have HOX := hide hox
          have HVW2 := hide (HVW.out W hbx)
          have BW := hide (B1.out.trans (hbx.mono B1.out.size))
          have HS1 := hide (Nat.lt_of_lt_of_le HEKV.out.lt HB1.out.size)
          have HOV2 := hide (ownF_keep HOWV.out (HB1.out.trans (hbx.mono HB1.out.size)))
          have x0 : W.cell? ⟨p, 0, none⟩ = some (.int .i64 X.lg) := hekx.cell rfl
          have x1 : W.cell? ⟨p, 1, none⟩ = some (.slice ax N cx) := hekx.cell rfl
          have x2 : W.cell? ⟨p, 2, none⟩ = some (.int .u64 X.fl) := hekx.cell rfl
          have x3 : W.cell? ⟨p, 3, none⟩ = some (.int .u64 X.ct) := hekx.cell rfl
          have x4 : W.cell? ⟨p, 4, none⟩ = some (.int .u64 X.at9) := hekx.cell rfl
          have x5 : W.cell? ⟨p, 5, none⟩ = some (.int .u64 X.ls) := hekx.cell rfl
          have v0 : W.cell? ⟨w.heap.size, 0, none⟩ = some (.int .i64 V.lg) := HVW2.out.cell rfl
          have f0 := HVW2.out.free 0
          have v1 : W.cell? ⟨w.heap.size, 1, none⟩ = some (.slice av nV cv) := HVW2.out.cell rfl
          have f1 := HVW2.out.free 1
          have v2 : W.cell? ⟨w.heap.size, 2, none⟩ = some (.int .u64 V.fl) := HVW2.out.cell rfl
          have f2 := HVW2.out.free 2
          have v3 : W.cell? ⟨w.heap.size, 3, none⟩ = some (.int .u64 V.ct) := HVW2.out.cell rfl
          have f3 := HVW2.out.free 3
          have v4 : W.cell? ⟨w.heap.size, 4, none⟩ = some (.int .u64 V.at9) := HVW2.out.cell rfl
          have f4 := HVW2.out.free 4
          have v5 : W.cell? ⟨w.heap.size, 5, none⟩ = some (.int .u64 V.ls) := HVW2.out.cell rfl
          have f5 := HVW2.out.free 5
          clear hekx hox hbx HVW HYC CA
          cases o with
          | false =>
            go_wp2_with fail
            go_roundw
            case rel => exact ⟨i + 1, by omega, by omega, by go_num, hide ⟨V, ⟨av, cv, by rw [HNV.out]; exact HVW2.out, hcv, by rw [HNV.out]; exact HOV2.out, HWFV.out⟩, HGV.out⟩, BW⟩
            case measure => simp [intOf]; omega
          | true =>
            have HGX2 := hide (HGX.out (by first | rfl | trivial))
            go_wp2_with fail
            go_roundw
            case rel =>
              have hg := egrow (k := 5) (u := .int .u64 X.ls) (egrow (k := 4) (u := .int .u64 X.at9) (egrow (k := 3) (u := .int .u64 X.ct) (egrow (k := 2) (u := .int .u64 X.fl) (egrow (k := 1) (u := .slice ax N cx) (fgb_set W ⟨w.heap.size, 0, none⟩ (.int .i64 X.lg))))))
              have hzz := (((((HVW2.out.set 0 (.int .i64 X.lg)).set 1 (.slice ax N cx)).set 2 (.int .u64 X.fl)).set 3 (.int .u64 X.ct)).set 4 (.int .u64 X.at9)).set 5 (.int .u64 X.ls)
              refine ⟨i + 1, by omega, by omega, by go_num, hide ⟨X, ⟨ax, cx, by rw [HN.out]; exact hzz, hcx, ?_, HWX.out⟩, HGX2.out⟩, hide (BW.out.grown hg BW.out.size (fun k hk => by cases hk; exact Nat.le_refl _))⟩
              rw [HN.out]
              exact ownF_grown (ownF_base HOX.out HS1.out) hg (fun k hk => by have : w.heap.size = k := Option.some.inj hk; omega)
            case measure => simp [intOf]; omega
    · obtain ⟨V, hvin, hgV⟩ := hV.out
      have HGV := hide hgV
      have HVIN := hide hvin
      obtain ⟨av, cv, hek, hcv, how, hwf⟩ := hvin
      have HEKV := hide hek
      have HWFV := hide hwf
      have hq : ¬ ((i : Int) < (len : Int)) ∨ ((i : Int) < (len : Int) ∧ ¬ ((i : Int) < 20)) := by omega
      have hq2 : ¬ (i < len) ∨ (i < len ∧ ¬ (i < 20)) := by omega
      obtain ⟨nV, hnV⟩ : ∃ n, V.f.length = n := ⟨_, rfl⟩
      have HNV := hide hnV
      rw [hnV] at hek how
      have HEKV := hide hek
      have HOWV := hide how
      have hfv := ownF_fsN how hwf hnV
      have HFV := hide (fun W (hW : Below wr.heap.size wr W) => hfv.2.below hW (Nat.le_refl _))
      have HEKW := hide (fun W (hW : Below wr.heap.size wr W) => HEKV.out.below hW HEKV.out.lt)
      have hn40 : nV ≤ 40 := by rw [← hnV]; exact (good_once hgV).2
      obtain ⟨ov, hov⟩ : ∃ o, vok V = o := ⟨_, rfl⟩
      have HOV := hide hov
      have COK := hide (ok_any av nV cv V wr hfv.2 (by omega) hcv)
      rw [hov] at COK
      unfold vwV at COK
      have hlP : w.heap.size < wr.heap.size := hek.lt
      have v0 : wr.cell? ⟨w.heap.size, 0, none⟩ = some (.int .i64 V.lg) := hek.cell rfl
      have v1 : wr.cell? ⟨w.heap.size, 1, none⟩ = some (.slice av nV cv) := hek.cell rfl
      have v2 : wr.cell? ⟨w.heap.size, 2, none⟩ = some (.int .u64 V.fl) := hek.cell rfl
      have v3 : wr.cell? ⟨w.heap.size, 3, none⟩ = some (.int .u64 V.ct) := hek.cell rfl
      have v4 : wr.cell? ⟨w.heap.size, 4, none⟩ = some (.int .u64 V.at9) := hek.cell rfl
      have v5 : wr.cell? ⟨w.heap.size, 5, none⟩ = some (.int .u64 V.ls) := hek.cell rfl
      clear hlt hek how hwf hgV hV hnV hov hfv HVIN
      rcases hq with q | ⟨q, q'⟩
      all_goals
        go_wp2_with fail
        refine COK.out.mono ?_
        rintro e w1 ⟨rfl, hb1⟩
        have HB1 := hide hb1
        have B1 := hide (hB.out.trans (hb1.mono hB.out.size))
        have hc1 : w1.cell? ⟨w.heap.size, 1, none⟩ = some (.slice av nV cv) := (HEKW.out w1 hb1).cell rfl
        clear COK hb1 v0 v1 v2 v3 v4 v5
        cases ov with
        | false =>
          obtain rfl : nV = 0 := by
            rcases HGV.out with e | e
            · rw [← HNV.out, e]; rfl
            · rw [HOV.out] at e; cases e
          go_wp2_with (go_at_call 13; refine (HA.out _).mono ?_; rintro e w6 ⟨rfl, hb6⟩)
          go_ret
          exact ⟨rfl, B1.out.trans (hb6.mono B1.out.size)⟩
        | true =>
          have k1 := HEKW.out w1 HB1.out
          have v0 : w1.cell? ⟨w.heap.size, 0, none⟩ = some (.int .i64 V.lg) := k1.cell rfl
          have v1 : w1.cell? ⟨w.heap.size, 1, none⟩ = some (.slice av nV cv) := k1.cell rfl
          have v2 : w1.cell? ⟨w.heap.size, 2, none⟩ = some (.int .u64 V.fl) := k1.cell rfl
          have v3 : w1.cell? ⟨w.heap.size, 3, none⟩ = some (.int .u64 V.ct) := k1.cell rfl
          have v4 : w1.cell? ⟨w.heap.size, 4, none⟩ = some (.int .u64 V.at9) := k1.cell rfl
          have v5 : w1.cell? ⟨w.heap.size, 5, none⟩ = some (.int .u64 V.ls) := k1.cell rfl
          have CW := hide (show Calls Try.prog 25 #[.agg #[.int .i64 V.lg, .slice av nV cv, .int .u64 V.fl, .int .u64 V.ct, .int .u64 V.at9, .int .u64 V.ls]] w1 fun e w' => ∃ a c, e = .returned (.agg #[.slice none 0 0, .slice a nV c, .int .i64 V.lg, .int .u64 V.fl, .int .u64 V.ct, .int .u64 V.at9, .int .u64 V.ls]) ∧ Fs w' a nV c V.f ∧ Below w1.heap.size w1 w' from (whole_any av nV cv V w1 (HFV.out w1 HB1.out) (by omega)).mono fun e w' ⟨a, c, h1, h2, h3, h4⟩ => by
            rw [HNV.out] at h1 h3
            exact ⟨a, c, h1, h3, h4⟩)
          have CA2 := hide (show ∀ W a c, Fs W a nV c V.f → Calls Try.prog 9 #[.agg #[.int .i64 0, .slice none 0 0, .int .u64 0, .int .u64 0, .int .u64 0, .int .u64 0], .agg #[.slice none 0 0, .slice a nV c, .int .i64 V.lg, .int .u64 V.fl, .int .u64 V.ct, .int .u64 V.at9, .int .u64 V.ls]] W fun e w' => ∃ a c, e = .returned (.tuple #[.agg #[.int .i64 V.lg, .slice a nV c, .int .u64 V.fl, .int .u64 V.ct, .int .u64 V.at9, .int .u64 V.ls], .bool true]) ∧ Fs w' a nV c V.f ∧ Below W.heap.size W w' from fun W a c hF =>
            (apply_any none none a 0 0 0 0 nV c zV (wholeE V) W (fs_nil W) (zs_nil W) hF (by omega) (by omega) (by omega) rfl).mono fun e w' h => by
              rw [appl_whole HOV.out] at h
              obtain ⟨a, c, h1, h2, h3, h4, h5⟩ := apr_some h
              rw [HNV.out] at h1 h4
              exact ⟨a, c, h1, h4, h5⟩)
          have CS := hide (show ∀ W a c, Below wr.heap.size wr W → Fs W a nV c V.f → Calls Try.prog 12 #[.agg #[.int .i64 V.lg, .slice av nV cv, .int .u64 V.fl, .int .u64 V.ct, .int .u64 V.at9, .int .u64 V.ls], .agg #[.int .i64 V.lg, .slice a nV c, .int .u64 V.fl, .int .u64 V.ct, .int .u64 V.at9, .int .u64 V.ls]] W fun e w' => e = .returned (.bool true) ∧ Below W.heap.size W w' from fun W a c hW hF => (sameview_any av a nV cv nV c V V W (HFV.out W hW) hF (by omega) (by omega)).mono fun e w' ⟨o, he, ho, hb⟩ => ⟨by rw [he, ho.2 rfl], hb⟩)
          have CS2 := hide (show ∀ W a c, Below wr.heap.size wr W → Fs W a nV c V.f → Calls Try.prog 21 #[.agg #[.int .i64 V.lg, .slice av nV cv, .int .u64 V.fl, .int .u64 V.ct, .int .u64 V.at9, .int .u64 V.ls], .agg #[.int .i64 V.lg, .slice a nV c, .int .u64 V.fl, .int .u64 V.ct, .int .u64 V.at9, .int .u64 V.ls]] W fun e w' => e = .returned (.bool true) ∧ Below W.heap.size W w' from fun W a c hW hF => (psame_any av a nV cv nV c V V W (HFV.out W hW) hF (by omega) (by omega)).mono fun e w' ⟨o, he, ho, hb⟩ => ⟨by rw [he, ho.2 rfl], hb⟩)
          clear k1 hc1
          go_wp2_with fail
          refine CW.out.mono ?_
          rintro e w2 ⟨a2, c2, rfl, hf2, hb2⟩
          have HB2 := hide (HB1.out.trans (hb2.mono HB1.out.size))
          have HF2 := hide hf2
          clear CW hb2 hf2 v0 v1 v2 v3 v4 v5
          go_wp2_with fail
          refine (CA2.out w2 a2 c2 HF2.out).mono ?_
          rintro e w3 ⟨a3, c3, rfl, hf3, hb3⟩
          have HB3 := hide (HB2.out.trans (hb3.mono HB2.out.size))
          have A3 := (Below.refl _ w3).alloc (Nat.le_refl _) (Obj.cells #[.int .i64 V.lg, .slice a3 nV c3, .int .u64 V.fl, .int .u64 V.ct, .int .u64 V.at9, .int .u64 V.ls] 26)
          have HF3 := hide (fun W (hW : Below w3.heap.size w3 W) => hf3.below hW (Nat.le_refl _))
          have HEK3 := hide (fun W (hW : Below (w3.heap.size + 1) (w3.alloc (Obj.cells #[.int .i64 V.lg, .slice a3 nV c3, .int .u64 V.fl, .int .u64 V.ct, .int .u64 V.at9, .int .u64 V.ls] 26)) W) => (ek_new w3 #[.int .i64 V.lg, .slice a3 nV c3, .int .u64 V.fl, .int .u64 V.ct, .int .u64 V.at9, .int .u64 V.ls] 26).below hW (Nat.lt_succ_self _))
          have HB4 := hide (HB3.out.trans (A3.mono HB3.out.size))
          have HA3 := hide A3
          have hlP3 : w.heap.size < w3.heap.size := Nat.lt_of_lt_of_le hlP HB3.out.size
          have k3 := HEKW.out w3 HB3.out
          have v0 : w3.cell? ⟨w.heap.size, 0, none⟩ = some (.int .i64 V.lg) := k3.cell rfl
          have v1 : w3.cell? ⟨w.heap.size, 1, none⟩ = some (.slice av nV cv) := k3.cell rfl
          have v2 : w3.cell? ⟨w.heap.size, 2, none⟩ = some (.int .u64 V.fl) := k3.cell rfl
          have v3 : w3.cell? ⟨w.heap.size, 3, none⟩ = some (.int .u64 V.ct) := k3.cell rfl
          have v4 : w3.cell? ⟨w.heap.size, 4, none⟩ = some (.int .u64 V.at9) := k3.cell rfl
          have v5 : w3.cell? ⟨w.heap.size, 5, none⟩ = some (.int .u64 V.ls) := k3.cell rfl
          clear CA2 HF2 hb3 hf3 A3 k3
          go_wp2_with fail
          refine (CS.out _ a3 c3 HB4.out (HF3.out _ HA3.out)).mono ?_
          rintro e w4 ⟨rfl, hb4⟩
          have HB5 := hide (HB4.out.trans (hb4.mono HB4.out.size))
          have HA4 := hide (HA3.out.trans (hb4.mono HA3.out.size))
          have k4 := HEKW.out w4 HB5.out
          have j4 := HEK3.out w4 (hb4.mono (by simp))
          have t0 : w4.cell? ⟨w.heap.size, 0, none⟩ = some (.int .i64 V.lg) := k4.cell rfl
          have t1 : w4.cell? ⟨w.heap.size, 1, none⟩ = some (.slice av nV cv) := k4.cell rfl
          have t2 : w4.cell? ⟨w.heap.size, 2, none⟩ = some (.int .u64 V.fl) := k4.cell rfl
          have t3 : w4.cell? ⟨w.heap.size, 3, none⟩ = some (.int .u64 V.ct) := k4.cell rfl
          have t4 : w4.cell? ⟨w.heap.size, 4, none⟩ = some (.int .u64 V.at9) := k4.cell rfl
          have t5 : w4.cell? ⟨w.heap.size, 5, none⟩ = some (.int .u64 V.ls) := k4.cell rfl
          have r0 : w4.cell? ⟨w3.heap.size, 0, none⟩ = some (.int .i64 V.lg) := j4.cell rfl
          have r1 : w4.cell? ⟨w3.heap.size, 1, none⟩ = some (.slice a3 nV c3) := j4.cell rfl
          have r2 : w4.cell? ⟨w3.heap.size, 2, none⟩ = some (.int .u64 V.fl) := j4.cell rfl
          have r3 : w4.cell? ⟨w3.heap.size, 3, none⟩ = some (.int .u64 V.ct) := j4.cell rfl
          have r4 : w4.cell? ⟨w3.heap.size, 4, none⟩ = some (.int .u64 V.at9) := j4.cell rfl
          have r5 : w4.cell? ⟨w3.heap.size, 5, none⟩ = some (.int .u64 V.ls) := j4.cell rfl
          clear CS k4 j4 hb4 v0 v1 v2 v3 v4 v5
          go_wp2_with fail
          refine (CS2.out _ a3 c3 HB5.out (HF3.out _ HA4.out)).mono ?_
          rintro e w5 ⟨rfl, hb5⟩
          have HB6 := hide (HB5.out.trans (hb5.mono HB5.out.size))
          have B6 := hide (hB.out.trans (HB6.out.mono hB.out.size))
          have k5 := HEKW.out w5 HB6.out
          have v0 : w5.cell? ⟨w.heap.size, 0, none⟩ = some (.int .i64 V.lg) := k5.cell rfl
          have v1 : w5.cell? ⟨w.heap.size, 1, none⟩ = some (.slice av nV cv) := k5.cell rfl
          have v2 : w5.cell? ⟨w.heap.size, 2, none⟩ = some (.int .u64 V.fl) := k5.cell rfl
          have v3 : w5.cell? ⟨w.heap.size, 3, none⟩ = some (.int .u64 V.ct) := k5.cell rfl
          have v4 : w5.cell? ⟨w.heap.size, 4, none⟩ = some (.int .u64 V.at9) := k5.cell rfl
          have v5 : w5.cell? ⟨w.heap.size, 5, none⟩ = some (.int .u64 V.ls) := k5.cell rfl
          have hlP5 : w.heap.size < w5.heap.size := Nat.lt_of_lt_of_le hlP HB6.out.size
          clear CS2 k5 hb5 t0 t1 t2 t3 t4 t5 r0 r1 r2 r3 r4 r5 HEK3 HA3 HA4 HF3 HB5 HB4 HB3 HB2 hlP3
          by_cases hn0 : nV = 0
          · subst hn0
            go_wp2_with (go_at_call 13; refine (HA.out _).mono ?_; rintro e w6 ⟨rfl, hb6⟩)
            go_ret
            exact ⟨rfl, B6.out.trans (hb6.mono B6.out.size)⟩
          · have hnb : ((nV : Int) == 0) = false := by simpa using hn0
            have hnp : (0 : Int) < (nV : Int) := by omega
            have hg9 := andi wh 255 (by omega)
            obtain ⟨g, hg⟩ : ∃ g : Int, bits .and .i64 wh 255 = g := ⟨_, rfl⟩
            have hgr : 0 ≤ g ∧ g ≤ 255 := by rw [← hg]; exact hg9
            obtain ⟨k, hk⟩ : ∃ k : Nat, g % (nV : Int) = (k : Int) := ⟨(g % (nV : Int)).toNat, (Int.toNat_of_nonneg (Int.emod_nonneg _ (by omega))).symm⟩
            have hkn : k < nV := by have := Int.emod_lt_of_pos g hnp; omega
            obtain ⟨f, bv, ov, hf, eav, c0, c1, hfw⟩ := fs_at (HFV.out w5 HB6.out) k hkn
            obtain ⟨fL, fN⟩ := f
            simp only at c0 c1
            subst eav
            have HF := hide hf
            have HFW := hide hfw
            obtain ⟨n1, hn1⟩ : ∃ n1 : Nat, nV = n1 + 1 := ⟨nV - 1, by omega⟩
            have HN1 := hide hn1
            have hA1 := (Below.refl _ w5).alloc (Nat.le_refl _) (Obj.cells #[.int .i64 fL, .int .i64 fN] 29)
            have HEF := hide (show ∀ W, Below (w5.heap.size + 1) (w5.alloc (Obj.cells #[.int .i64 fL, .int .i64 fN] 29)) W → Ek W w5.heap.size #[.int .i64 fL, .int .i64 fN] 29 from fun W hW => (ek_new w5 _ _).below hW (Nat.lt_succ_self _))
            have CB := hide (show ∀ (W : World) (p q : Nat), Below wr.heap.size wr W → W.heap[p]? = some (.cells #[.int .i64 fN] 3) → W.heap[q]? = some (.cells #[.int .i64 fL, .int .i64 fN] 29) → Calls Try.prog 9 #[.agg #[.int .i64 V.lg, .slice (some ⟨bv, ov, none⟩) nV cv, .int .u64 V.fl, .int .u64 V.ct, .int .u64 V.at9, .int .u64 V.ls], .agg #[.slice (some ⟨p, 0, none⟩) 1 1, .slice (some ⟨q, 0, none⟩) 1 1, .int .i64 0, .int .u64 0, .int .u64 0, .int .u64 0, .int .u64 0]] W fun e w' => ∃ a c, e = .returned (.tuple #[.agg #[.int .i64 V.lg, .slice a nV c, .int .u64 V.fl, .int .u64 V.ct, .int .u64 V.at9, .int .u64 V.ls], .bool true]) ∧ Fs w' a nV c (backV V k ⟨fL, fN⟩).f ∧ Below W.heap.size W w' from fun W p q hW hp hq =>
              (apply_any (some ⟨bv, ov, none⟩) (some ⟨p, 0, none⟩) (some ⟨q, 0, none⟩) nV cv 1 1 1 1 V ⟨[fN], [⟨fL, fN⟩], 0, 0, 0, 0, 0⟩ W (HFV.out W hW) (zs_block HFW.out.2 hp) (fs_block HFW.out hq) (by omega) (by omega) (by omega) (good_once HGV.out).1).mono fun e w' h => by
                rw [appl_back HOV.out HF.out] at h
                obtain ⟨a, c, h1, h2, h3, h4, h5⟩ := apr_some h
                rw [backV_len HF.out, HNV.out] at h1 h4
                exact ⟨a, c, h1, h4, h5⟩)
            have CT := hide (show ∀ (W : World) (p : Nat), Below wr.heap.size wr W → W.heap[p]? = some (.cells #[.int .i64 fN, .int .i64 fN] 3) → Calls Try.prog 9 #[.agg #[.int .i64 V.lg, .slice (some ⟨bv, ov, none⟩) nV cv, .int .u64 V.fl, .int .u64 V.ct, .int .u64 V.at9, .int .u64 V.ls], .agg #[.slice (some ⟨p, 0, none⟩) 2 2, .slice none 0 0, .int .i64 0, .int .u64 0, .int .u64 0, .int .u64 0, .int .u64 0]] W fun e w' => e = .returned (.tuple #[.agg #[.int .i64 0, .slice none 0 0, .int .u64 0, .int .u64 0, .int .u64 0, .int .u64 0], .bool false]) ∧ Below W.heap.size W w' from fun W p hW hp =>
              (apply_any (some ⟨bv, ov, none⟩) (some ⟨p, 0, none⟩) none nV cv 2 2 0 0 V ⟨[fN, fN], [], 0, 0, 0, 0, 0⟩ W (HFV.out W hW) (zs_two HFW.out.2 hp) (fs_nil W) (by omega) (by omega) (by omega) (good_once HGV.out).1).mono fun e w' h => by
                rw [appl_twice HOV.out HF.out] at h
                exact h)
            have CG := hide (show ∀ (W : World) (q : Nat), Below wr.heap.size wr W → W.heap[q]? = some (.cells #[.int .i64 fL, .int .i64 fN] 29) → Calls Try.prog 9 #[.agg #[.int .i64 V.lg, .slice (some ⟨bv, ov, none⟩) nV cv, .int .u64 V.fl, .int .u64 V.ct, .int .u64 V.at9, .int .u64 V.ls], .agg #[.slice none 0 0, .slice (some ⟨q, 0, none⟩) 1 1, .int .i64 0, .int .u64 0, .int .u64 0, .int .u64 0, .int .u64 0]] W fun e w' => e = .returned (.tuple #[.agg #[.int .i64 0, .slice none 0 0, .int .u64 0, .int .u64 0, .int .u64 0, .int .u64 0], .bool false]) ∧ Below W.heap.size W w' from fun W q hW hq =>
              (apply_any (some ⟨bv, ov, none⟩) none (some ⟨q, 0, none⟩) nV cv 0 0 1 1 V ⟨[], [⟨fL, fN⟩], 0, 0, 0, 0, 0⟩ W (HFV.out W hW) (zs_nil W) (fs_block HFW.out hq) (by omega) (by omega) (by omega) (good_once HGV.out).1).mono fun e w' h => by
                rw [appl_again HOV.out HF.out] at h
                exact h)
            have hA2 := hA1.alloc hA1.size (Obj.cells #[.int .i64 fN] 3)
            have hA3 := hA2.alloc hA2.size (Obj.cells #[.int .i64 fL, .int .i64 fN] 29)
            have HB7 := hide (HB6.out.trans (hA3.mono HB6.out.size))
            have HP7 := hide (show ((((w5.alloc (Obj.cells #[.int .i64 fL, .int .i64 fN] 29)).alloc (Obj.cells #[.int .i64 fN] 3)).alloc (Obj.cells #[.int .i64 fL, .int .i64 fN] 29)).heap[w5.heap.size + 1]? = some (.cells #[.int .i64 fN] 3)) from (Below.heap_alloc _ _ _ (by simp)).trans (fhpS _ _ _ (by simp)))
            have HQ7 := hide (show ((((w5.alloc (Obj.cells #[.int .i64 fL, .int .i64 fN] 29)).alloc (Obj.cells #[.int .i64 fN] 3)).alloc (Obj.cells #[.int .i64 fL, .int .i64 fN] 29)).heap[w5.heap.size + 1 + 1]? = some (.cells #[.int .i64 fL, .int .i64 fN] 29)) from fhpS _ _ _ (by simp))
            have HE7 := hide (show Below (w5.heap.size + 1) (w5.alloc (Obj.cells #[.int .i64 fL, .int .i64 fN] 29)) (((w5.alloc (Obj.cells #[.int .i64 fL, .int .i64 fN] 29)).alloc (Obj.cells #[.int .i64 fN] 3)).alloc (Obj.cells #[.int .i64 fL, .int .i64 fN] 29)) from ((Below.refl _ _).alloc (by simp) _).alloc (by simp) _)
            clear hg9 hf hfw hn1 hA1 hA2 hA3
            go_wp2_with fail
            refine (CB.out _ (w5.heap.size + 1) (w5.heap.size + 1 + 1) HB7.out HP7.out HQ7.out).mono ?_
            rintro e w6 ⟨a6, c6, rfl, hf6, hb6⟩
            have HB8 := hide (HB7.out.trans (hb6.mono HB7.out.size))
            have HE8 := hide (HE7.out.trans (hb6.mono (by simp <;> omega)))
            have hA4 := (Below.refl _ w6).alloc (Nat.le_refl _) (Obj.cells #[.int .i64 V.lg, .slice a6 nV c6, .int .u64 V.fl, .int .u64 V.ct, .int .u64 V.at9, .int .u64 V.ls] 26)
            have HEX := hide (show ∀ W, Below (w6.heap.size + 1) (w6.alloc (Obj.cells #[.int .i64 V.lg, .slice a6 nV c6, .int .u64 V.fl, .int .u64 V.ct, .int .u64 V.at9, .int .u64 V.ls] 26)) W → Ek W w6.heap.size #[.int .i64 V.lg, .slice a6 nV c6, .int .u64 V.fl, .int .u64 V.ct, .int .u64 V.at9, .int .u64 V.ls] 26 from fun W hW => (ek_new w6 _ _).below hW (Nat.lt_succ_self _))
            have HF6 := hide (fun W (hW : Below w6.heap.size w6 W) => hf6.below hW (Nat.le_refl _))
            have hA5 := hA4.alloc hA4.size (Obj.cells #[.int .i64 fN, .int .i64 fN] 3)
            have HB9 := hide (HB8.out.trans (hA5.mono HB8.out.size))
            have HA5 := hide hA5
            have HP9 := hide (show (((w6.alloc (Obj.cells #[.int .i64 V.lg, .slice a6 nV c6, .int .u64 V.fl, .int .u64 V.ct, .int .u64 V.at9, .int .u64 V.ls] 26)).alloc (Obj.cells #[.int .i64 fN, .int .i64 fN] 3)).heap[w6.heap.size + 1]? = some (.cells #[.int .i64 fN, .int .i64 fN] 3)) from fhpS _ _ _ (by simp))
            have HX9 := hide (show Below (w6.heap.size + 1) (w6.alloc (Obj.cells #[.int .i64 V.lg, .slice a6 nV c6, .int .u64 V.fl, .int .u64 V.ct, .int .u64 V.at9, .int .u64 V.ls] 26)) ((w6.alloc (Obj.cells #[.int .i64 V.lg, .slice a6 nV c6, .int .u64 V.fl, .int .u64 V.ct, .int .u64 V.at9, .int .u64 V.ls] 26)).alloc (Obj.cells #[.int .i64 fN, .int .i64 fN] 3)) from (Below.refl _ _).alloc (by simp) _)
            have HSX := hide (show w6.heap.size + 1 ≤ ((w6.alloc (Obj.cells #[.int .i64 V.lg, .slice a6 nV c6, .int .u64 V.fl, .int .u64 V.ct, .int .u64 V.at9, .int .u64 V.ls] 26)).alloc (Obj.cells #[.int .i64 fN, .int .i64 fN] 3)).heap.size by simp)
            have hl6 : w.heap.size < w6.heap.size := Nat.lt_of_lt_of_le hlP HB8.out.size
            have hl56 : w5.heap.size < w6.heap.size := Nat.lt_of_lt_of_le (HEF.out _ HE7.out).lt (Nat.le_trans (Nat.le_refl _) hb6.size)
            have hk6 := HEKW.out w6 HB8.out
            have s0 : w6.cell? ⟨w.heap.size, 0, none⟩ = some (.int .i64 V.lg) := hk6.cell rfl
            have s1 : w6.cell? ⟨w.heap.size, 1, none⟩ = some (.slice (some ⟨bv, ov, none⟩) nV cv) := hk6.cell rfl
            have s2 : w6.cell? ⟨w.heap.size, 2, none⟩ = some (.int .u64 V.fl) := hk6.cell rfl
            have s3 : w6.cell? ⟨w.heap.size, 3, none⟩ = some (.int .u64 V.ct) := hk6.cell rfl
            have s4 : w6.cell? ⟨w.heap.size, 4, none⟩ = some (.int .u64 V.at9) := hk6.cell rfl
            have s5 : w6.cell? ⟨w.heap.size, 5, none⟩ = some (.int .u64 V.ls) := hk6.cell rfl
            have hkf := HEF.out w6 HE8.out
            have g0 : w6.cell? ⟨w5.heap.size, 0, none⟩ = some (.int .i64 fL) := hkf.cell rfl
            have g1 : w6.cell? ⟨w5.heap.size, 1, none⟩ = some (.int .i64 fN) := hkf.cell rfl
            clear hf6 hb6 hA4 hA5 v0 v1 v2 v3 v4 v5 c0 c1 CB HP7 HQ7 hkf hk6
            go_wp2_with fail
            refine (CT.out _ (w6.heap.size + 1) HB9.out HP9.out).mono ?_
            rintro e w7 ⟨rfl, hb7⟩
            have HB10 := hide (HB9.out.trans (hb7.mono HB9.out.size))
            have hl67 : w6.heap.size + 1 ≤ w7.heap.size := Nat.le_trans HSX.out hb7.size
            have HE10 := hide ((HE8.out.trans (HA5.out.mono hl56)).trans (hb7.mono (Nat.le_trans hl56 HA5.out.size)))
            have HX10 := hide (HX9.out.trans (hb7.mono HSX.out))
            have HA7 := hide (HA5.out.trans (hb7.mono HA5.out.size))
            have hA6 := (Below.refl _ w7).alloc (Nat.le_refl _) (Obj.cells #[.int .i64 0, .slice none 0 0, .int .u64 0, .int .u64 0, .int .u64 0, .int .u64 0] 26)
            have hA7 := hA6.alloc hA6.size (Obj.cells #[.int .i64 fL, .int .i64 fN] 29)
            have HB11 := hide (HB10.out.trans (hA7.mono HB10.out.size))
            have HA8 := hide (HA7.out.trans (hA7.mono HA7.out.size))
            have HP11 := hide (show (((w7.alloc (Obj.cells #[.int .i64 0, .slice none 0 0, .int .u64 0, .int .u64 0, .int .u64 0, .int .u64 0] 26)).alloc (Obj.cells #[.int .i64 fL, .int .i64 fN] 29)).heap[w7.heap.size + 1]? = some (.cells #[.int .i64 fL, .int .i64 fN] 29)) from fhpS _ _ _ (by simp))
            have hl7 : w.heap.size < w7.heap.size := Nat.lt_of_lt_of_le hlP HB10.out.size
            have hl57 : w5.heap.size < w7.heap.size := Nat.lt_of_lt_of_le hl56 HA7.out.size
            have HX11 := hide (HX10.out.trans (hA7.mono hl67))
            have HE11 := hide (HE10.out.trans (hA7.mono hl57))
            have hk7 := HEKW.out w7 HB10.out
            have hkf := HEF.out w7 HE10.out
            have u0 : w7.cell? ⟨w.heap.size, 0, none⟩ = some (.int .i64 V.lg) := hk7.cell rfl
            have u1 : w7.cell? ⟨w.heap.size, 1, none⟩ = some (.slice (some ⟨bv, ov, none⟩) nV cv) := hk7.cell rfl
            have u2 : w7.cell? ⟨w.heap.size, 2, none⟩ = some (.int .u64 V.fl) := hk7.cell rfl
            have u3 : w7.cell? ⟨w.heap.size, 3, none⟩ = some (.int .u64 V.ct) := hk7.cell rfl
            have u4 : w7.cell? ⟨w.heap.size, 4, none⟩ = some (.int .u64 V.at9) := hk7.cell rfl
            have u5 : w7.cell? ⟨w.heap.size, 5, none⟩ = some (.int .u64 V.ls) := hk7.cell rfl
            have m0 : w7.cell? ⟨w5.heap.size, 0, none⟩ = some (.int .i64 fL) := hkf.cell rfl
            have m1 : w7.cell? ⟨w5.heap.size, 1, none⟩ = some (.int .i64 fN) := hkf.cell rfl
            clear hb7 hA6 hA7 hk7 hkf CT HP9 s0 s1 s2 s3 s4 s5 g0 g1
            go_wp2_with fail
            refine (CG.out _ (w7.heap.size + 1) HB11.out HP11.out).mono ?_
            rintro e w8 ⟨rfl, hb8⟩
            have HB12 := hide (HB11.out.trans (hb8.mono HB11.out.size))
            have HX12 := hide (HX11.out.trans (hb8.mono (by simp; omega)))
            have HE12 := hide (HE11.out.trans (hb8.mono (by simp; omega)))
            have HA12 := hide (HA8.out.trans (hb8.mono HA8.out.size))
            have B12 := hide (hB.out.trans (HB12.out.mono hB.out.size))
            have hA9 := (Below.refl _ w8).alloc (Nat.le_refl _) (Obj.cells #[.int .i64 0, .slice none 0 0, .int .u64 0, .int .u64 0, .int .u64 0, .int .u64 0] 26)
            have hl68 : w6.heap.size + 1 ≤ w8.heap.size := Nat.le_trans (by simp; omega) hb8.size
            have hl58 : w5.heap.size + 1 ≤ w8.heap.size := Nat.le_trans (by simp; omega) hb8.size
            have HB13 := hide (HB12.out.trans (hA9.mono HB12.out.size))
            have HX13 := hide (HX12.out.trans (hA9.mono hl68))
            have HE13 := hide (HE12.out.trans (hA9.mono hl58))
            have HA13 := hide (HA12.out.trans (hA9.mono HA12.out.size))
            have B13 := hide (hB.out.trans (HB13.out.mono hB.out.size))
            clear hb8 CG HP11 u0 u1 u2 u3 u4 u5 m0 m1 hA9
            go_wp2_with fail
            generalize hw9 : w8.alloc (Obj.cells #[.int .i64 0, .slice none 0 0, .int .u64 0, .int .u64 0, .int .u64 0, .int .u64 0] 26) = w9 at *
            clear hw9 HB12 HX12 HE12 HA12 B12
            have hbl := backV_len HF.out
            rw [HNV.out] at hbl
            obtain ⟨f2, b6, o6, hf2, e6, d0, d1, _⟩ := fs_at (HF6.out w9 HA13.out) n1 (by have := HN1.out; omega)
            subst e6
            have hf3 := backV_last V k ⟨fL, fN⟩ n1 (by rw [hbl]; exact HN1.out)
            have hf4 : f2 = ⟨fL, fN⟩ := Option.some.inj (hf2.symm.trans hf3)
            subst hf4
            simp only at d0 d1
            have hkx := HEX.out w9 HX13.out
            have hkv := HEKW.out w9 HB13.out
            have hke := HEF.out w9 HE13.out
            have p1 : ∀ p : Kp w9, p.W.cell? ⟨w6.heap.size, 1, none⟩ = some (.slice (some ⟨b6, o6, none⟩) nV c6) := fun p => (hkx.below p.h hkx.lt).cell rfl
            have p2 : ∀ p : Kp w9, p.W.cell? ⟨w.heap.size, 1, none⟩ = some (.slice (some ⟨bv, ov, none⟩) nV cv) := fun p => (hkv.below p.h hkv.lt).cell rfl
            have p3 : ∀ p : Kp w9, p.W.cell? ⟨b6, o6 + n1 * 2, none⟩ = some (.int .i64 fL) := fun p => (p.h.cell (p := ⟨b6, o6 + n1 * 2, none⟩) (World.block_lt_of_cell? w9 _ d0)).trans d0
            have p4 : ∀ p : Kp w9, p.W.cell? ⟨b6, o6 + n1 * 2 + 1, none⟩ = some (.int .i64 fN) := fun p => (p.h.cell (p := ⟨b6, o6 + n1 * 2 + 1, none⟩) (World.block_lt_of_cell? w9 _ d1)).trans d1
            have p5 : ∀ p : Kp w9, p.W.cell? ⟨w5.heap.size, 0, none⟩ = some (.int .i64 fL) := fun p => (hke.below p.h hke.lt).cell rfl
            have p6 : ∀ p : Kp w9, p.W.cell? ⟨w5.heap.size, 1, none⟩ = some (.int .i64 fN) := fun p => (hke.below p.h hke.lt).cell rfl
            have hsub : IntKind.i64.wrap ((nV : Int) - 1) = (n1 : Int) := by
              have := HN1.out
              simp [IntKind.wrap, IntKind.bits, IntKind.signed]
              omega
            have hnn : ((nV : Int) == (nV : Int)) = true := by simp
            have hfl : (fL == fL) = true := by simp
            have hfn : (fN == fN) = true := by simp
            have hn1V : n1 < nV := by have := HN1.out; omega
            have ca : Hid (∀ p : Kp w9, Calls Try.prog 13 #[] p.W fun e w'' => e = .returned (.bool true) ∧ ∃ q : Kp w9, w'' = q.W) := hide fun p => kp_call (HA.out p.W)
            have hne : Nonempty (Kp w9) := ⟨⟨_, Below.refl _ _⟩⟩
            clear hkx hkv hke d0 d1 hf2 hf3 hbl HF6 HEX HEF HEKW HFV HX13 HE13 HA13 hl67 hl68 hl58 hl57 hl56 hl6 hl7 hk hkn hg hgr hnp hn0 hnb q
            refine wp_region_kept (by kernel_rfl) (by kernel_rfl) ?_
            repeat (first
              | go_big_quiet_step (first | (go_at_call 13; exact ca.out _))
              | fail)
            refine wpQuiet_nil ?_
            intro w10 hw'
            have hb10 : Below w9.heap.size w9 w10 := by
              obtain ⟨⟨w3', hb3⟩, hw''⟩ := hw'
              rw [hw'']; exact hb3
            have B14 := hide (B13.out.trans (hb10.mono B13.out.size))
            clear hw' hne p1 p2 p3 p4 p5 p6 ca hb10
            go_wp2
            go_ret
            exact ⟨rfl, B14.out⟩

end Go.Proofs.Ytgopcaemgcnapaa.Clep
