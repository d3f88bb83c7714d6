/- Statement DiskNames says true for any text as a name, any number of names, any of them kept: the walk over the translated program. -/
import Derived.Test.YthmfkfiblaamfabDNames
namespace Go.Proofs.Ythmfkfiblaamfab.Clep
open Go.RowKit Go.Maps Go.Sort Go.Shelf
set_option linter.unusedVariables false
set_option linter.unusedSimpArgs false

theorem infoS : (Try.prog.info? 9).map (fun i => (i.zero, i.size, i.bytes)) = some (some (.string ⟨#[]⟩), 1, 16) := by kernel_rfl
theorem nm_cat (i : Nat) (h : i < 16) : (⟨#[110]⟩ : ByteArray) ++ dgI i = nmI i := by
  rcases below16 h with rfl | rfl | rfl | rfl | rfl | rfl | rfl | rfl | rfl | rfl | rfl | rfl | rfl | rfl | rfl | rfl <;> kernel_rfl
theorem nm_size (i : Nat) : (nmI i).size = 3 := rfl
theorem dg_size (i : Nat) : (dgI i).size = 2 := rfl
theorem str_one (w : World) (s : ByteArray) : ∀ j u, ([Value.string s] : List Value)[j]? = some u → (w.alloc (.cells #[.string s] 9)).cell? ((⟨w.heap.size, 0, none⟩ : Addr).add j) = some u := by
  intro j u hu
  rw [add_plain, Nat.zero_add]
  exact cell_of (MapKept.heap_alloc w _).1 (by simpa using hu)
theorem want_succ (ks : List Int) (n : Nat) : (wantL ks (n + 1)).map encStr = (wantL ks n).map encStr ++ (if keepB ks n then [Value.string (nmI n)] else []) := by
  unfold wantL
  rw [kept_succ]
  cases h : keepB ks n <;> simp [encStr]
theorem want_len (ks : List Int) (n : Nat) : (wantL ks n).length ≤ n := by
  unfold wantL keptI
  rw [List.length_map]
  exact Nat.le_trans (List.length_filter_le _ _) (by simp)

/-- What is not the Disk's may grow. -/
theorem Held.grown {F : Nat → Prop} {w w' : World} {R : Nat} {S : St} {row : Option Nat} (h : Held F w R S) (hg : w.grownBy w' row) (hr : ∀ g, row = some g → F g) : Held (fun i => F i ∨ (w.heap.size ≤ i ∧ i < w'.heap.size)) w' R S := by
  obtain ⟨G, D, hF⟩ := h
  have T : Turn G.τ (fun n => n = 0) w w' := ⟨hg.size, fun i hi ht => hg.block i hi (fun e => ht (hF i (hr i e.symm)).2)⟩
  obtain ⟨DD, f1, f2, f3⟩ := D.fm
  refine ⟨G, ⟨row_keep T D.row (by rw [D.tR]; omega), ⟨DD, map_keep T f1 (by rw [D.tf]; omega), f2, f3⟩, map_keep T D.nm (by rw [D.tn]; omega), map_keep T D.lm (by rw [D.tl]; omega), owns_keep T D.sc (fun g hg => by rw [D.ts g hg]; omega),
    fun f hf => file_keep T (D.files f hf) (by omega) (by omega), D.tR, D.tf, D.tn, D.tl, D.ts, fun i hi => D.top i (Nat.le_trans hg.size hi), D.ok⟩, fun j hj => ?_⟩
  rcases hj with hj | hj
  · exact ⟨Nat.lt_of_lt_of_le (hF j hj).1 hg.size, (hF j hj).2⟩
  · exact ⟨hj.2, D.top _ hj.1⟩
def FV (B : Nat) (v : Value) : Nat → Prop := fun i => i < B ∨ ∃ g, v.ownBlock = some g ∧ i = g
theorem row_same {B C e sz n : Nat} {v : Value} {xs : List Value} {w w' : World} (h : w.ownsRow B e sz v n xs) (hs : Same (FV C v) w w') : w'.ownsRow B e sz v n xs := by
  obtain ⟨hl, ⟨rfl, hn⟩ | ⟨g, cap, cur, rfl, hg, hh, r⟩⟩ := h
  · exact ⟨hl, .inl ⟨rfl, hn⟩⟩
  · exact ⟨hl, .inr ⟨g, cap, cur, rfl, hg, (hs.block g (.inr ⟨g, rfl, rfl⟩)).trans hh, r⟩⟩
theorem keep_at {ks : List Int} {k : Nat} (h : k < ks.length) : keepB ks k = decide (ks.getD k 0 % 2 = 0) := by
  unfold keepB
  rw [List.drop_eq_getElem_cons h]
  show ((ks[k]).tmod 2 == 0) = _
  rw [even_iff]
  simp [List.getD, List.getElem?_eq_getElem h]
theorem keep_past {ks : List Int} {k : Nat} (h : ks.length ≤ k) : keepB ks k = true := by
  unfold keepB
  rw [List.drop_eq_nil_of_le h]
  rfl

theorem num_more {P Q : Nat → Prop} {w : World} {v : Value} {ks : List Int} (h : NumV P w v ks) (hp : ∀ i, P i → Q i) : NumV Q w v ks := by
  obtain ⟨ao', cap', e, h1, h2, h3, h4⟩ := h
  refine ⟨ao', cap', e, h1, h2, h3, fun h0 => ?_⟩
  obtain ⟨b, off, e1, q, hc⟩ := h4 h0
  exact ⟨b, off, e1, hp b q, hc⟩
theorem calls_m {F : Nat → Prop} {R : Nat} {S : St} {c : Int} (hc : (S.calls : Int) = c) (w : World) (h : Held F w R S) :
    Calls Try.prog 14 #[.pointer (some ⟨R, 0, none⟩)] w fun e w' => e = .returned (.int .i64 c) ∧ w' = w := by
  rw [← hc]; exact calls_h h

set_option maxHeartbeats 4000000 in
set_option maxRecDepth 8000 in
theorem names_any (s : ByteArray) (n : Int) (ao : Option Addr) (la ca : Nat) (ka : List Int) (w : World) (hs : s.size ≤ 9223372036854775807) (ha : NumV (· < w.heap.size) w (.slice ao la ca) ka) :
    Calls Try.prog 5 #[.string s, .int .i64 n, .slice ao la ca] w fun e w' => e = .returned (.bool true) ∧ Below w.heap.size w w' := by
  have HA := hide ha
  have hka := hide ha.at.1
  have NW := hide (new_h 1000 w (by omega) 1000 rfl)
  obtain ⟨m, hm, hm2⟩ := andm n 15 (by omega)
  have hm' : bits .and .i64 n 15 = (m : Int) := hm
  clear ha hm
  by_cases hlong : 100 < s.size
  · have hl' : (100 : Int) < (s.size : Int) := by omega
    go_enter Try.func5, Try.ntmps5
    go_wp2_with fail
    refine NW.out.mono ?_
    rintro e w1 ⟨R, rfl, H1, B1⟩
    have HB1 := hide B1
    have AW := hide (awake_any w1)
    clear H1 B1 NW
    go_wp2_with fail
    refine AW.out.mono ?_
    rintro e w2 ⟨rfl, B2⟩
    have HB2 := hide (HB1.out.trans (B2.mono HB1.out.size))
    clear B2
    go_wp2
    go_ret
    exact ⟨rfl, HB2.out⟩
  · have hl' : ¬ ((100 : Int) < (s.size : Int)) := by omega
    go_enter Try.func5, Try.ntmps5
    go_wp2_with fail
    refine NW.out.mono ?_
    rintro e w1 ⟨R, rfl, H1, B1⟩
    have HH1 := hide (show Held (· < w.heap.size) w1 R (nX 0) from H1)
    have HB1 := hide B1
    clear H1 B1 NW
    go_wp2_with fail
    go_loopw [8, 9] (fun v i wr => ∃ (k : Nat) (v' : Value), v' = v ∧ i = .int .i64 k ∧ k ≤ m + 1 ∧ Hid (Held (FV w.heap.size v) wr R (nX k)) ∧ Hid (wr.ownsRow w.heap.size 9 1 v (wantL ka k).length ((wantL ka k).map encStr)) ∧ Hid (Below w.heap.size w wr)) (fun _ i _ => m + 1 - (intOf i).toNat)
    case atStart => exact ⟨0, _, rfl, rfl, by omega, hide (HH1.out.less (fun i hi => by rcases hi with hi | ⟨g, hg, _⟩; exact hi; cases hg)), hide ⟨rfl, .inl ⟨rfl, rfl⟩⟩, HB1⟩
    case round =>
      obtain ⟨k, v, rfl, rfl, hk, hH, hV, hB⟩ := hrel
      by_cases hlt : k < m + 1
      · have hlt' : (k : Int) < (m : Int) + 1 := by omega
        have hnm := nm_cat k (by omega)
        have hds := dg_size k
        go_wp2_with fail
        refine (digits_any k (by omega) wr).mono ?_
        rintro e w2 ⟨rfl, B2⟩
        have hS2 := hH.out.same B2
        have CR := hide (create_h (nmI k) (names1 k (by omega)) hS2.1 (by show k < 1099511627776; omega) (by show 3 ≤ 70368744177664; omega))
        have hV2 := hide (row_same hV.out hS2.2)
        have hB2 := hide (hB.out.trans (B2.mono hB.out.size))
        clear B2 hS2 hH hV hB
        go_wp2_with fail
        refine CR.out.mono ?_
        rintro e w4 ⟨rfl, hH4', S4⟩
        have hV4 := hide (row_same hV2.out S4)
        have hB4 := hide (hB2.out.trans (S4.below (fun i hi => .inl hi)))
        have hH4 := hide hH4'
        clear hH4' S4 CR hV2 hB2
        by_cases hpast : la ≤ k
        · have hp' : (la : Int) ≤ (k : Int) := by omega
          have hkeep : keepB ka k = true := keep_past (by rw [hka.out]; exact hpast)
          obtain ⟨i0, hi, hz0, hz1, hz2⟩ := info_parts infoS
          have hOa := hide (hV4.out |> fun h => row_below h ((Below.refl _ w4).alloc (Nat.le_refl _) (.cells #[.string (nmI k)] 9)))
          have hNa := hide (str_one w4 (nmI k))
          have hwl := want_len ka k
          have hHa := hide (show Held (FV w.heap.size v) (w4.alloc (.cells #[.string (nmI k)] 9)) R (nX (k + 1)) from (hH4.out.same ((Below.refl _ w4).alloc (Nat.le_refl _) _)).1)
          have hBa := hide (hB4.out.alloc hB4.out.size (.cells #[.string (nmI k)] 9))
          generalize hWL : (wantL ka k).length = WL at *
          have HWL := hide hWL
          clear hWL
          go_wp2_with (first
            | (at_builtin; refine wpList_append_own_at _ rfl _ _ 40 rfl w.heap.size 9 i0 (.string ⟨#[]⟩) 1 16 Try.underlying40 hi hz0 hz1 hz2 rfl (by decide) v WL _ rfl hOa.out ⟨w4.heap.size, 0, none⟩ 1 1 [.string (nmI k)] rfl rfl hNa.out (by simp [Value.oneCell']) (by unfold maxLen; omega) (by omega) hBa.out.size ?_; intro v6 w6 o6 g6 _ l6)
            | fail)
          have hW6 : (wantL ka (k + 1)).map encStr = (wantL ka k).map encStr ++ [Value.string (nmI k)] := by rw [want_succ, hkeep, if_pos rfl]
          have hW6l : (wantL ka (k + 1)).length = WL + 1 := by
            have := congrArg List.length hW6
            simpa [HWL.out] using this
          have HV6 := hide (show w6.ownsRow w.heap.size 9 1 v6 (wantL ka (k + 1)).length ((wantL ka (k + 1)).map encStr) by rw [hW6, hW6l]; exact o6)
          have HH6 := hide (show Held (FV w.heap.size v6) w6 R (nX (k + 1)) from (hHa.out.grown g6 (fun g hg => .inr ⟨g, hg, rfl⟩)).less (fun i hi => by
            rcases hi with hi | ⟨g, hg, rfl⟩
            · exact .inl (.inl hi)
            · rcases l6 with e | e
              · exact .inl (.inr ⟨_, by rw [← e]; exact hg, rfl⟩)
              · rw [e] at hg
                have := (World.ownsRow.lt o6 i (by rw [e]; exact hg)).2
                exact .inr ⟨by rw [← Option.some.inj hg]; exact Nat.le_refl _, this⟩))
          have HB6 := hide (hBa.out.grown g6 hBa.out.size (fun g hg => (World.ownsRow.lt hOa.out g hg).1))
          clear o6 g6 l6 hW6 hW6l hOa hNa hHa hBa hV4 hH4 hB4
          obtain ⟨v6o, v6c, rfl⟩ : ∃ a c, v6 = .slice a (wantL ka (k + 1)).length c := by obtain ⟨a, c, e, _⟩ := row_slice HV6.out; exact ⟨a, c, e⟩
          go_wp2
          go_roundw
          case rel => exact ⟨k + 1, _, rfl, by go_num, by omega, HH6, HV6, HB6⟩
          case measure => simp [intOf]; omega
        · have hp' : ¬ ((la : Int) ≤ (k : Int)) := by omega
          have hp'' : (k : Int) < (la : Int) := by omega
          obtain ⟨ab, aoff, rfl, hq, hcell, hlm⟩ := HA.out.at.2 k (by omega)
          have hcr : w4.cell? ⟨ab, aoff + k, none⟩ = some (.int .i64 (ka.getD k 0)) := by rw [hB4.out.cell (p := ⟨ab, aoff + k, none⟩) hq]; exact hcell
          have hke := keep_at (ks := ka) (k := k) (by rw [hka.out]; omega)
          have hone := and_one (ka.getD k 0)
          by_cases hev : ka.getD k 0 % 2 = 0
          · have hkeep : keepB ka k = true := by rw [hke]; exact decide_eq_true hev
            have hone' : bits .and .i64 (ka.getD k 0) 1 = 0 := by rw [hone]; exact hev
            generalize ka.getD k 0 = z at *
            clear hke hone hev hcell
            obtain ⟨i0, hi, hz0, hz1, hz2⟩ := info_parts infoS
            have hOa := hide (hV4.out |> fun h => row_below h ((Below.refl _ w4).alloc (Nat.le_refl _) (.cells #[.string (nmI k)] 9)))
            have hNa := hide (str_one w4 (nmI k))
            have hwl := want_len ka k
            have hHa := hide (show Held (FV w.heap.size v) (w4.alloc (.cells #[.string (nmI k)] 9)) R (nX (k + 1)) from (hH4.out.same ((Below.refl _ w4).alloc (Nat.le_refl _) _)).1)
            have hBa := hide (hB4.out.alloc hB4.out.size (.cells #[.string (nmI k)] 9))
            generalize hWL : (wantL ka k).length = WL at *
            have HWL := hide hWL
            clear hWL
            go_wp2_with (first
              | (at_builtin; refine wpList_append_own_at _ rfl _ _ 40 rfl w.heap.size 9 i0 (.string ⟨#[]⟩) 1 16 Try.underlying40 hi hz0 hz1 hz2 rfl (by decide) v WL _ rfl hOa.out ⟨w4.heap.size, 0, none⟩ 1 1 [.string (nmI k)] rfl rfl hNa.out (by simp [Value.oneCell']) (by unfold maxLen; omega) (by omega) hBa.out.size ?_; intro v6 w6 o6 g6 _ l6)
              | fail)
            have hW6 : (wantL ka (k + 1)).map encStr = (wantL ka k).map encStr ++ [Value.string (nmI k)] := by rw [want_succ, hkeep, if_pos rfl]
            have hW6l : (wantL ka (k + 1)).length = WL + 1 := by
              have := congrArg List.length hW6
              simpa [HWL.out] using this
            have HV6 := hide (show w6.ownsRow w.heap.size 9 1 v6 (wantL ka (k + 1)).length ((wantL ka (k + 1)).map encStr) by rw [hW6, hW6l]; exact o6)
            have HH6 := hide (show Held (FV w.heap.size v6) w6 R (nX (k + 1)) from (hHa.out.grown g6 (fun g hg => .inr ⟨g, hg, rfl⟩)).less (fun i hi => by
              rcases hi with hi | ⟨g, hg, rfl⟩
              · exact .inl (.inl hi)
              · rcases l6 with e | e
                · exact .inl (.inr ⟨_, by rw [← e]; exact hg, rfl⟩)
                · rw [e] at hg
                  have := (World.ownsRow.lt o6 i (by rw [e]; exact hg)).2
                  exact .inr ⟨by rw [← Option.some.inj hg]; exact Nat.le_refl _, this⟩))
            have HB6 := hide (hBa.out.grown g6 hBa.out.size (fun g hg => (World.ownsRow.lt hOa.out g hg).1))
            clear o6 g6 l6 hW6 hW6l hOa hNa hHa hBa hV4 hH4 hB4
            obtain ⟨v6o, v6c, rfl⟩ : ∃ a c, v6 = .slice a (wantL ka (k + 1)).length c := by obtain ⟨a, c, e, _⟩ := row_slice HV6.out; exact ⟨a, c, e⟩
            go_wp2
            go_roundw
            case rel => exact ⟨k + 1, _, rfl, by go_num, by omega, HH6, HV6, HB6⟩
            case measure => simp [intOf]; omega
          · have hkeep : keepB ka k = false := by rw [hke]; exact decide_eq_false hev
            have hone' : bits .and .i64 (ka.getD k 0) 1 = 1 := by rw [hone]; omega
            generalize ka.getD k 0 = z at *
            clear hke hone hev hcell
            have hW6 : (wantL ka (k + 1)).map encStr = (wantL ka k).map encStr := by rw [want_succ, hkeep]; simp
            have hW6l : (wantL ka (k + 1)).length = (wantL ka k).length := by
              have := congrArg List.length hW6
              simpa using this
            have HV6 := hide (show w4.ownsRow w.heap.size 9 1 v (wantL ka (k + 1)).length ((wantL ka (k + 1)).map encStr) by rw [hW6, hW6l]; exact hV4.out)
            clear hW6 hW6l hV4
            go_wp2
            go_roundw
            case rel => exact ⟨k + 1, _, rfl, by go_num, by omega, hH4, HV6, hB4⟩
            case measure => simp [intOf]; omega
      · have hkm : k = m + 1 := by omega
        subst hkm
        have hlt' : ¬ (((m + 1 : Nat) : Int) < (m : Int) + 1) := by omega
        have hlt2 : ¬ ((m : Int) + 1 < (m : Int) + 1) := by omega
        obtain ⟨cc, hcc⟩ : ∃ cc : Int, ((nX (m + 1)).calls : Int) = cc := ⟨_, rfl⟩
        have Hcc := hide hcc
        clear hcc
        have CA := hide (calls_m Hcc.out wr hH.out)
        go_wp2_with fail
        refine CA.out.mono ?_
        rintro e w2 ⟨rfl, e2⟩
        subst e2
        clear CA
        have OK := hide (refok_any s w2 (by omega))
        go_wp2_with fail
        refine OK.out.mono ?_
        rintro e w3 ⟨rfl, e2⟩
        subst e2
        clear OK
        cases hok : okName s with
        | true =>
          have hH5 := hH
          have hV5 := hV
          have hB5 := hB
          clear hH hV hB
          go_wp2_with fail
          refine (crash_h ao la ca ka rfl hH5.out (by show m + 1 ≤ 1099511627776; omega) ((HA.out.keep (fun j hj _ => hB5.out.block j hj)) |> fun h => num_more h (fun i hi => .inl hi))).mono ?_
          rintro e w6 ⟨rfl, H6, S6⟩
          have HV6 := hide (row_same hV5.out S6)
          have HB6 := hide (hB5.out.trans (S6.below (fun i hi => .inl hi)))
          obtain ⟨n1, n2, n3⟩ := names2 (m + 1) ka (by omega)
          have hLn : ∀ l ∈ namesL (crashS (nX (m + 1)) ka), l.length ≤ 70368744177664 := by
            rw [n1]
            intro l hl
            obtain ⟨j, hj, rfl⟩ := List.mem_map.1 hl
            have := names_len j (by have := kept_lt ka (m + 1) j hj; omega)
            omega
          have LS := hide (list_h H6 n2 (by rw [n3]; omega) hLn)
          clear hLn
          rw [n1] at LS
          have hwl := want_len ka (m + 1)
          clear H6 S6 hH5 hV5 hB5 n1 n2 n3
          go_wp2_with fail
          refine LS.out.mono ?_
          rintro e w7 ⟨so, sc, rfl, hrow, H7, B7⟩
          have HV7 := hide (row_below HV6.out B7)
          have HR7 := hide (row_base hrow (Nat.zero_le _))
          have HB7 := hide (HB6.out.trans (B7.mono HB6.out.size))
          obtain ⟨vo, vc, e', hvc, hvcell⟩ := row_slice HV7.out
          obtain ⟨so2, sc2, e2', hsc2, hscell⟩ := row_slice HR7.out
          injection e2' with e3 e4 e5
          subst e3 e5
          subst e'
          have Hc1 := hide hvcell
          have Hc2 := hide hscell
          generalize hWW : wantL ka (m + 1) = WW at *
          clear hrow H7 B7 HV6 HB6 LS HV7 HR7 hvcell hscell hWW e4
          go_wp2_with fail
          go_loopw [15] (fun i wr => ∃ (j : Nat), i = .int .i64 j ∧ j ≤ WW.length ∧ Hid (Below w7.heap.size w7 wr)) (fun i _ => WW.length - (intOf i).toNat)
          case atStart => exact ⟨0, rfl, by omega, hide (Below.refl _ _)⟩
          case round =>
            obtain ⟨j, rfl, hj, hB8⟩ := hrel
            by_cases hjl : j < WW.length
            · obtain ⟨g1, rfl, hg1⟩ := Hc1.out (by omega)
              obtain ⟨g2, rfl, hg2⟩ := Hc2.out (by omega)
              have x1 : w7.cell? ⟨g1, j, none⟩ = some (encStr WW[j]) := hg1 j _ (by simp [hjl])
              have x2 : w7.cell? ⟨g2, j, none⟩ = some (encStr WW[j]) := hg2 j _ (by simp [hjl])
              simp only [encStr] at x1 x2
              have hj' : (j : Int) < (WW.length : Int) := by omega
              generalize (⟨WW[j].toArray⟩ : ByteArray) = sj at *
              have y1 : wr.cell? ⟨g1, j, none⟩ = some (.string sj) := by rw [hB8.out.cell (p := ⟨g1, j, none⟩) (World.block_lt_of_cell? w7 _ x1)]; exact x1
              have y2 : wr.cell? ⟨g2, j, none⟩ = some (.string sj) := by rw [hB8.out.cell (p := ⟨g2, j, none⟩) (World.block_lt_of_cell? w7 _ x2)]; exact x2
              clear hg1 hg2 x1 x2
              go_wp2_with fail
              go_quiet (fail)
              have hB9 := hide (hB8.out.trans ((drewN_below wr nq).mono hB8.out.size))
              go_wp2
              go_roundw
              case rel => exact ⟨j + 1, by go_num, by omega, hB9⟩
              case measure => simp [intOf]; omega
            · have hje : j = WW.length := by omega
              subst hje
              have hj' : ¬ ((WW.length : Int) < (WW.length : Int)) := by omega
              go_wp2_with fail
              refine (awake_any wr).mono ?_
              rintro e w9 ⟨rfl, B9⟩
              have hB9 := hide ((HB7.out.trans (hB8.out.mono HB7.out.size)).trans (B9.mono (Nat.le_trans HB7.out.size hB8.out.size)))
              clear B9
              go_wp2
              go_ret
              exact ⟨rfl, hB9.out⟩
        | false =>
          obtain ⟨b1, b2, b3, b4, b5, _, b7⟩ := names_bad (nX (m + 1)) s ⟨#[97]⟩ [] hok
          obtain ⟨_, _, _, _, _, b6, _⟩ := names_bad (nX (m + 1)) s ⟨#[110, 49, 48]⟩ [] hok
          have bb := hide (And.intro b1 (And.intro b2 (And.intro b3 (And.intro b4 (And.intro b5 (And.intro b6 b7))))))
          clear b1 b2 b3 b4 b5 b6 b7
          have hcl : (nX (m + 1)).calls < 1099511627776 := by show m + 1 < 1099511627776; omega
          have hcl' := hide hcl
          clear hcl
          have RD := hide (read_h s bb.out.2.2.2.2.2.2 hH.out (by omega))
          go_wp2_with fail
          refine RD.out.mono ?_
          rintro e w4 ⟨ro, rc, rfl, _, hH4', B4⟩
          have hS4 := hH.out.same B4
          have hV4 := hide (row_same hV.out hS4.2)
          have hB4 := hide (hB.out.trans (hS4.2.below (fun i hi => .inl hi)))
          have hH4 := hide hH4'
          clear hH4' B4 hS4 hH hV hB RD
          have CR := hide (create_h s bb.out.1 hH4.out hcl'.out (by omega))
          go_wp2_with fail
          refine CR.out.mono ?_
          rintro e w6 ⟨rfl, hH', hS'⟩
          have hV6 := hide (row_same hV4.out hS')
          have hB6 := hide (hB4.out.trans (hS'.below (fun i hi => .inl hi)))
          have hH6 := hide hH'
          clear hH' hS' CR hH4 hV4 hB4
          have CR := hide (append_h s none 0 0 [] bb.out.2.1 hH6.out hcl'.out (by omega) (bs_nil _) (by omega) (fun b off h => by cases h))
          go_wp2_with fail
          refine CR.out.mono ?_
          rintro e w7 ⟨rfl, hH', hS'⟩
          have hV7 := hide (row_same hV6.out hS')
          have hB7 := hide (hB6.out.trans (hS'.below (fun i hi => .inl hi)))
          have hH7 := hide hH'
          clear hH' hS' CR hH6 hV6 hB6
          have CR := hide (sync_h s bb.out.2.2.1 hH7.out hcl'.out (by omega))
          go_wp2_with fail
          refine CR.out.mono ?_
          rintro e w8 ⟨rfl, hH', hS'⟩
          have hV8 := hide (row_same hV7.out hS')
          have hB8 := hide (hB7.out.trans (hS'.below (fun i hi => .inl hi)))
          have hH8 := hide hH'
          clear hH' hS' CR hH7 hV7 hB7
          have CR := hide (remove_h s bb.out.2.2.2.1 hH8.out hcl'.out (by omega))
          go_wp2_with fail
          refine CR.out.mono ?_
          rintro e w9 ⟨rfl, hH', hS'⟩
          have hV9 := hide (row_same hV8.out hS')
          have hB9 := hide (hB8.out.trans (hS'.below (fun i hi => .inl hi)))
          have hH9 := hide hH'
          clear hH' hS' CR hH8 hV8 hB8
          have CR := hide (rename_h s ⟨#[97]⟩ bb.out.2.2.2.2.1 hH9.out hcl'.out (by omega) (by decide))
          go_wp2_with fail
          refine CR.out.mono ?_
          rintro e w10 ⟨rfl, hH', hS'⟩
          have hV10 := hide (row_same hV9.out hS')
          have hB10 := hide (hB9.out.trans (hS'.below (fun i hi => .inl hi)))
          have hH10 := hide hH'
          clear hH' hS' CR hH9 hV9 hB9
          have CR := hide (rename_h ⟨#[110, 49, 48]⟩ s bb.out.2.2.2.2.2.1 hH10.out hcl'.out (by decide) (by omega))
          go_wp2_with fail
          refine CR.out.mono ?_
          rintro e w14 ⟨rfl, hH', hS'⟩
          have hV14 := hide (row_same hV10.out hS')
          have hB14 := hide (hB10.out.trans (hS'.below (fun i hi => .inl hi)))
          have hH14 := hide hH'
          clear hH' hS' CR hH10 hV10 hB10
          have CA := hide (calls_m Hcc.out w14 hH14.out)
          go_wp2_with fail
          refine CA.out.mono ?_
          rintro e w5 ⟨rfl, e2⟩
          subst e2
          have hH5 := hH14
          have hV5 := hV14
          have hB5 := hB14
          clear hH14 hV14 hB14 CA
          go_wp2_with fail
          refine (crash_h ao la ca ka rfl hH5.out (by show m + 1 ≤ 1099511627776; omega) ((HA.out.keep (fun j hj _ => hB5.out.block j hj)) |> fun h => num_more h (fun i hi => .inl hi))).mono ?_
          rintro e w6 ⟨rfl, H6, S6⟩
          have HV6 := hide (row_same hV5.out S6)
          have HB6 := hide (hB5.out.trans (S6.below (fun i hi => .inl hi)))
          obtain ⟨n1, n2, n3⟩ := names2 (m + 1) ka (by omega)
          have hLn : ∀ l ∈ namesL (crashS (nX (m + 1)) ka), l.length ≤ 70368744177664 := by
            rw [n1]
            intro l hl
            obtain ⟨j, hj, rfl⟩ := List.mem_map.1 hl
            have := names_len j (by have := kept_lt ka (m + 1) j hj; omega)
            omega
          have LS := hide (list_h H6 n2 (by rw [n3]; omega) hLn)
          clear hLn
          rw [n1] at LS
          have hwl := want_len ka (m + 1)
          clear H6 S6 hH5 hV5 hB5 n1 n2 n3
          go_wp2_with fail
          refine LS.out.mono ?_
          rintro e w7 ⟨so, sc, rfl, hrow, H7, B7⟩
          have HV7 := hide (row_below HV6.out B7)
          have HR7 := hide (row_base hrow (Nat.zero_le _))
          have HB7 := hide (HB6.out.trans (B7.mono HB6.out.size))
          obtain ⟨vo, vc, e', hvc, hvcell⟩ := row_slice HV7.out
          obtain ⟨so2, sc2, e2', hsc2, hscell⟩ := row_slice HR7.out
          injection e2' with e3 e4 e5
          subst e3 e5
          subst e'
          have Hc1 := hide hvcell
          have Hc2 := hide hscell
          generalize hWW : wantL ka (m + 1) = WW at *
          clear hrow H7 B7 HV6 HB6 LS HV7 HR7 hvcell hscell hWW e4
          go_wp2_with fail
          go_loopw [15] (fun i wr => ∃ (j : Nat), i = .int .i64 j ∧ j ≤ WW.length ∧ Hid (Below w7.heap.size w7 wr)) (fun i _ => WW.length - (intOf i).toNat)
          case atStart => exact ⟨0, rfl, by omega, hide (Below.refl _ _)⟩
          case round =>
            obtain ⟨j, rfl, hj, hB8⟩ := hrel
            by_cases hjl : j < WW.length
            · obtain ⟨g1, rfl, hg1⟩ := Hc1.out (by omega)
              obtain ⟨g2, rfl, hg2⟩ := Hc2.out (by omega)
              have x1 : w7.cell? ⟨g1, j, none⟩ = some (encStr WW[j]) := hg1 j _ (by simp [hjl])
              have x2 : w7.cell? ⟨g2, j, none⟩ = some (encStr WW[j]) := hg2 j _ (by simp [hjl])
              simp only [encStr] at x1 x2
              have hj' : (j : Int) < (WW.length : Int) := by omega
              generalize (⟨WW[j].toArray⟩ : ByteArray) = sj at *
              have y1 : wr.cell? ⟨g1, j, none⟩ = some (.string sj) := by rw [hB8.out.cell (p := ⟨g1, j, none⟩) (World.block_lt_of_cell? w7 _ x1)]; exact x1
              have y2 : wr.cell? ⟨g2, j, none⟩ = some (.string sj) := by rw [hB8.out.cell (p := ⟨g2, j, none⟩) (World.block_lt_of_cell? w7 _ x2)]; exact x2
              clear hg1 hg2 x1 x2
              go_wp2_with fail
              go_quiet (fail)
              have hB9 := hide (hB8.out.trans ((drewN_below wr nq).mono hB8.out.size))
              go_wp2
              go_roundw
              case rel => exact ⟨j + 1, by go_num, by omega, hB9⟩
              case measure => simp [intOf]; omega
            · have hje : j = WW.length := by omega
              subst hje
              have hj' : ¬ ((WW.length : Int) < (WW.length : Int)) := by omega
              go_wp2_with fail
              refine (awake_any wr).mono ?_
              rintro e w9 ⟨rfl, B9⟩
              have hB9 := hide ((HB7.out.trans (hB8.out.mono HB7.out.size)).trans (B9.mono (Nat.le_trans HB7.out.size hB8.out.size)))
              clear B9
              go_wp2
              go_ret
              exact ⟨rfl, hB9.out⟩

end Go.Proofs.Ythmfkfiblaamfab.Clep
