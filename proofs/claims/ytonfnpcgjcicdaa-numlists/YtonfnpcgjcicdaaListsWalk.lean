/- The statement NumLists, called at any bytes, numbers and bound, answers true, in new memory alone. No conditions. -/
import Derived.Test.YtonfnpcgjcicdaaRefUnlist
import Derived.ArgAppend
namespace Go.Proofs.Ytonfnpcgjcicdaa.Clep
open Go.RowKit
set_option linter.unusedVariables false

theorem uls_range (zs : List Int) (hz : ∀ z ∈ zs, 0 ≤ z ∧ z < 256) : ∀ (c P : Nat) (acc : List Int), (∀ z ∈ acc, 0 ≤ z ∧ z ≤ 18446744073709551615) → ∀ z ∈ (uls c zs P acc).1, 0 ≤ z ∧ z ≤ 18446744073709551615
  | 0, P, acc, h => by rw [uls]; exact h
  | c + 1, P, acc, h => by
    have hf := tk_facts (zs.drop P) 0 0 (by omega) (fun z hz' => hz z (List.mem_of_mem_drop hz')) (by omega) (by simp)
    rw [uls]
    split
    · refine uls_range zs hz c _ _ ?_
      intro z hz'
      rcases List.mem_append.1 hz' with h1 | h1
      · exact h z h1
      · simp at h1; omega
    · simp
theorem ul_range (zs : List Int) (hz : ∀ z ∈ zs, 0 ≤ z ∧ z < 256) (most : Int) : ∀ z ∈ (ul zs most).1, 0 ≤ z ∧ z ≤ 18446744073709551615 := by
  unfold ul
  split
  · split
    · simp
    · exact uls_range zs hz _ _ [] (by simp)
  · simp
theorem ownU_len {w : World} {B : Nat} {v : Value} {ns : List Int} (h : OwnU w B v ns) : ns.length ≤ 9223372036854775807 := by
  obtain ⟨_, ⟨rfl, hn⟩ | ⟨g, cap, cur, rfl, _, _, h1, h2, _⟩⟩ := h
  · omega
  · unfold maxLen at h2; omega
theorem own_spare {w : World} {B : Nat} {zs : List Int} {g L cap : Nat} (h : Own w B (.slice (some ⟨g, 0, none⟩) L cap) zs) (j : Nat) (hj : j < cap) : (w.cell? ⟨g, j, none⟩).isSome = true ∧ w.frozen? ⟨g, j, none⟩ = false := by
  obtain ⟨_, ⟨h1, _⟩ | ⟨g', cap', cur, h1, _, hh, _, _, hcs, _⟩⟩ := h
  · cases h1
  · cases h1
    rw [cell_of_row w g j cur 5 (0, 0) hh, frozen_of_row w g j cur 5 hh]
    exact ⟨by simp; omega, rfl⟩
theorem own_in {w : World} {B : Nat} {zs : List Int} {g L cap : Nat} (h : Own w B (.slice (some ⟨g, 0, none⟩) L cap) zs) : B ≤ g ∧ g < w.heap.size := World.ownsRow.lt h g rfl

/-- One byte is laid behind a row, in its own spare room. -/
theorem bs_room {w : World} {g o n c : Nat} {l : List Int} (h : Bs w (some ⟨g, o, none⟩) n c l) (hc : n + 1 ≤ c) (hg : g < w.heap.size) (hs : (w.cell? ⟨g, o + n, none⟩).isSome = true) (ob : Obj) :
    Bs ((w.alloc ob).setCells g (o + n) [.int .u8 9]) (some ⟨g, o, none⟩) (n + 1) c (l ++ [9]) := by
  have hb : Below w.heap.size w (w.alloc ob) := (Below.refl _ _).alloc (Nat.le_refl _) _
  refine ⟨by rw [List.length_append, h.1]; rfl, ⟨hc, fun e => by cases e⟩, range_of (cat_range (bs_range h) (by decide)), fun _ => ⟨g, o, rfl, fun i hi => ?_⟩⟩
  show ((w.alloc ob).setCell ⟨g, o + n, none⟩ (.int .u8 9)).cell? ⟨g, o + i, none⟩ = _
  by_cases hin : i = n
  · subst hin
    obtain ⟨u, hu⟩ := Option.isSome_iff_exists.1 hs
    rw [← hb.cell (p := ⟨g, o + i, none⟩) hg] at hu
    rw [World.cell?_setCell_same _ _ _ hu]
    simp [List.getD, h.1]
  · rw [World.cell?_setCell_other _ _ _ _ (by intro e; simp at e <;> omega), hb.cell (p := ⟨g, o + i, none⟩) hg]
    obtain ⟨b, off, ho, hcell⟩ := h.2.2.2 (by omega)
    cases ho
    rw [hcell i (by omega)]
    simp only [List.getD]
    rw [List.getElem?_append_left (by rw [h.1]; omega)]

set_option maxHeartbeats 1000000 in
theorem lists_long (a0 a1 a2 : Option Addr) (len0 cap0 len1 cap1 len2 cap2 : Nat) (most : Int) (w : World) (h : 500 < len0 ∨ (len0 ≤ 500 ∧ 200 < len1) ∨ (len0 ≤ 500 ∧ len1 ≤ 200 ∧ 2000 < len2)) (hm0 : len0 ≤ 9223372036854775807) (hm1 : len1 ≤ 9223372036854775807) (hm2 : len2 ≤ 9223372036854775807) :
    Calls Try.prog 7 #[.slice a0 len0 cap0, .slice a1 len1 cap1, .slice a2 len2 cap2, .int .i64 most] w fun e w' => e = .returned (.bool true) ∧ Below w.heap.size w w' := by
  rcases h with h | ⟨h, h'⟩ | ⟨h, h', h''⟩
  all_goals
    go_enter Try.func7, Try.ntmps7
    go_wp2_with (go_at_call 11; refine (awake_any _).mono ?_; rintro e w' ⟨rfl, hbel⟩)
    go_ret
    exact ⟨rfl, hbel⟩

set_option maxRecDepth 100000 in
set_option maxHeartbeats 1500000 in
theorem lists_core (a0 a1 a2 : Option Addr) (len0 cap0 len1 cap1 len2 cap2 : Nat) (most : Int) (zs ns cs : List Int) (w : World) (h0 : Bs w a0 len0 cap0 zs) (h1 : Us w a1 len1 cap1 ns) (h2 : Bs w a2 len2 cap2 cs) (hl0 : len0 ≤ 500) (hl1 : len1 ≤ 200) (hl2 : len2 ≤ 2000) (hc2 : cap2 ≤ 9223372036854775807) (hmo : most ≤ 9223372036854775807) (hmo2 : -9223372036854775808 ≤ most)
    (sB sN sP : ByteArray) (LP : Nat) (hsB : Hid (strOfNums zs = sB)) (hsN : Hid (strOfNums (li ns) = sN)) (hsP : Hid (strOfNums (zs ++ li ns) = sP)) (tB : sB.size + sN.size ≤ 100000) (kP : (sP.toList == (sB ++ sN).toList) = true) (hLP : Hid ((zs ++ li ns).length = LP)) (rr : List Int × Int × Int) (hrr : Hid (ul cs most = rr)) (hrrR : Hid (∀ z ∈ rr.1, 0 ≤ z ∧ z ≤ 18446744073709551615)) :
    Calls Try.prog 7 #[.slice a0 len0 cap0, .slice a1 len1 cap1, .slice a2 len2 cap2, .int .i64 most] w fun e w' => e = .returned (.bool true) ∧ Below w.heap.size w w' := by
  obtain ⟨i0, hi, hz0, hz1, hz2⟩ := info_parts info5
  have H0 := hide h0
  have H1 := hide h1
  have H2 := hide h2
  have hzl := hide h0.1
  have hnl := hide h1.1
  have hzn := hide h1.2.2.1
  have hzr := hide (bs_range h0)
  have hcr := hide (bs_range h2)
  clear h0 h1 h2
  have hlr := hide (li_range ns hzn.out (by rw [hnl.out]; omega))
  have hll := li_len ns (by rw [hnl.out]; omega)
  have hk1 : len0 < LP ∧ LP ≤ 3000 ∧ Hid (LP - len0 = (li ns).length) := by
    have := hLP.out; rw [List.length_append, hzl.out] at this; have := hnl.out
    exact ⟨by omega, by omega, hide (by omega)⟩
  obtain ⟨hk1, hk2, hk3⟩ := hk1
  clear hll
  go_enter Try.func7, Try.ntmps7
  go_wp2_with fail
  refine (list_any a0 len0 cap0 zs a1 len1 cap1 ns w (by omega) H0.out (by omega) H1.out).mono ?_
  rintro e w1 ⟨v, rfl, ho1, hb1⟩
  obtain ⟨g, cap, hv1, hcp1, hcm1, hbs1⟩ := own_at ho1 (cat_range hzr.out hlr.out) LP hLP.out (by omega)
  rw [hv1] at ho1 ⊢
  have HB1 := hide hb1
  have HS1 := hide hbs1
  have HO1 := hide ho1
  clear ho1 hb1 hv1 hbs1
  have p0 : ∀ p : Kp w1, (convert 23 9 (.slice (some ⟨g, 0, none⟩) LP cap)).run Try.prog p.W = .ok (.string sP) p.W := fun p => by
    have := conv_bs (HS1.out.below p.h (Nat.le_refl _)); rwa [hsP.out] at this
  have b0 : ∀ p : Kp w1, (convert 23 9 (.slice a0 len0 cap0)).run Try.prog p.W = .ok (.string sB) p.W := fun p => by
    have := conv_bs ((H0.out.below HB1.out (Nat.le_refl _)).below p.h (Nat.le_refl _)); rwa [hsB.out] at this
  have kB : ∀ W, (Op.stringOp .add sB sN).run Try.prog W = .ok (.string (sB ++ sN)) W := fun W => run_string_add_sum W _ _ (by omega)
  have hne : Nonempty (Kp w1) := ⟨⟨w1, Below.refl _ _⟩⟩
  have cN : Hid (∀ p : Kp w1, Calls Try.prog 23 #[.slice a1 len1 cap1] p.W fun e w'' => e = .returned (.string sN) ∧ ∃ q : Kp w1, w'' = q.W) := hide fun p => kp_call (by rw [← hsN.out]; exact reflist_any a1 len1 cap1 ns _ (by omega) ((H1.out.below HB1.out (Nat.le_refl _)).below p.h (Nat.le_refl _)))
  go_wp2_with fail
  refine wp_region_kept (by kernel_rfl) (by kernel_rfl) ?_
  repeat (first
    | go_big_quiet_step ((go_at_call 23; exact cN.out _))
    | fail)
  refine wpQuiet_nil ?_
  intro w3 hw'
  have HB3 : Hid (Below w1.heap.size w1 w3) := by
    obtain ⟨⟨w3', hb3⟩, hw''⟩ := hw'
    rw [hw'']; exact hb3
  clear hw' p0 b0 hne cN kB kP
  have HS3 := hide ((HS1.out.below HB3.out (Nat.le_refl _)).drop len0 (by omega))
  have hg := own_in HO1.out
  have HSP : Hid (∀ j, j < cap → (w3.cell? ⟨g, j, none⟩).isSome = true ∧ w3.frozen? ⟨g, j, none⟩ = false) := hide fun j hj => by
    rw [HB3.out.cell (p := ⟨g, j, none⟩) hg.2, HB3.out.frozen (p := ⟨g, j, none⟩) hg.2]; exact own_spare HO1.out j hj
  rw [List.drop_append_of_le_length (by rw [hzl.out]; exact Nat.le_refl _), List.drop_of_length_le (by rw [hzl.out]; exact Nat.le_refl _), List.nil_append] at HS3
  have hLPc : LP - len0 ≤ cap - len0 := by omega
  have HBA : Hid (Below w.heap.size w w3) := hide (HB1.out.trans (HB3.out.mono HB1.out.size))
  go_wp2_with (first
    | (at_builtin; refine wpList_append_arg _ rfl (.tmp 48) (.tmp 49) 23 rfl 5 i0 (.int .u8 0) 1 1 Try.underlying23 hi hz0 hz1 hz2 rfl (by decide) g len0 (LP - len0) (cap - len0) (bv (li ns)) rfl ?c1 ?c2 ⟨w3.heap.size, 0, none⟩ 1 1 [.int .u8 9] rfl rfl ?c3 ?c4 ?c5 ?c6 ?c7 ?c8 ?c9)
    | fail)
  case c1 => rw [bv_len, ← hk3.out]; omega
  case c2 =>
    intro j u hu
    have hg3 : g < w3.heap.size := Nat.lt_of_lt_of_le hg.2 HB3.out.size
    have := bs_cells HS3.out _ rfl j u hu
    rw [add_plain] at this
    rw [← this]
    exact Below.cell (B := w3.heap.size) ((Below.refl _ _).alloc (Nat.le_refl _) _) (by exact hg3)
  case c3 => exact cell_one_new _ _ _
  case c4 => intro u hu; simp at hu; subst hu; rfl
  case c5 =>
    intro hr j hj
    have hg3 : g < w3.heap.size := Nat.lt_of_lt_of_le hg.2 HB3.out.size
    simp only [List.length_cons, List.length_nil] at hj
    have hx : ∀ o, Below w3.heap.size w3 (w3.alloc o) := fun o => (Below.refl _ _).alloc (Nat.le_refl _) _
    rw [(hx _).cell (p := ⟨g, len0 + (LP - len0) * 1 + j, none⟩) (by exact hg3), (hx _).frozen (p := ⟨g, len0 + (LP - len0) * 1 + j, none⟩) (by exact hg3)]
    exact HSP.out _ (by omega)
  case c6 => unfold maxLen; omega
  case c7 => omega
  case c8 =>
    intro hr
    have hg3 : g < w3.heap.size := Nat.lt_of_lt_of_le hg.2 HB3.out.size
    have hBW : Below w.heap.size w ((w3.alloc (.cells #[.int .u8 9] 5)).setCells g (len0 + (LP - len0)) [.int .u8 9]) :=
      (HBA.out.alloc HBA.out.size _).setCell hg.1 _
    have hSW : Bs ((w3.alloc (.cells #[.int .u8 9] 5)).setCells g (len0 + (LP - len0)) [.int .u8 9]) (some ⟨g, len0, none⟩) (LP - len0 + 1) (cap - len0) (li ns ++ [9]) := by
      exact bs_room HS3.out (by omega) hg3 (HSP.out _ (by omega)).1 _
    generalize (w3.alloc (.cells #[.int .u8 9] 5)).setCells g (len0 + (LP - len0)) [.int .u8 9] = W at hBW hSW ⊢
    have HBW := hide hBW
    have HSW := hide hSW
    have hcmW : cap - len0 ≤ 9223372036854775807 := by omega
    clear hBW hSW HSP HS3 HO1 HS1 HBA
    go_wp2_with fail
    refine (unlist_any (some ⟨g, len0, none⟩) (LP - len0 + 1) (cap - len0) (li ns ++ [9]) (len1 : Int) W (by omega) hcmW HSW.out (by omega) (by omega) (ns, ((li ns).length : Int), 0) (hide (ul_whole ns [9] hzn.out (by rw [hnl.out]; omega) (len1 : Int) (by rw [hnl.out]; exact Int.le_refl _)))).mono ?_
    rintro e w4 ⟨v4, rfl, ho4, hb4⟩
    obtain ⟨ao4, cap4, hv4, hu4⟩ := ownU_us ho4 (by
      intro z hz
      obtain ⟨j, hj, rfl⟩ := List.getElem_of_mem hz
      have := hzn.out j
      simpa [List.getD, List.getElem?_eq_getElem hj] using this)
    rw [hnl.out] at hv4 hu4
    rw [hv4]
    simp only
    have HB4 := hide (HBW.out.trans (hb4.mono HBW.out.size))
    have HU4 := hide hu4
    have hlenb : ((((li ns).length : Nat) : Int) != (LP : Int) - (len0 : Int)) = false := by have := hk3.out; simp; omega
    generalize (li ns).length = LL at *
    clear ho4 hb4 hu4 hv4 HSW
    go_wp2_with fail
    refine (same_eq _ _ len1 _ _ ns w4 (by omega) HU4.out (H1.out.below HB4.out (Nat.le_refl _))).mono ?_
    rintro e w5 ⟨rfl, hb5⟩
    have HB5 := hide (HB4.out.trans (hb5.mono HB4.out.size))
    clear hb5 HU4
    go_wp2_with fail
    refine (unlist_any a2 len2 cap2 cs most w5 (by omega) hc2 (H2.out.below HB5.out (Nat.le_refl _)) hmo hmo2 rr hrr).mono ?_
    rintro e w6 ⟨v6, rfl, ho6, hb6⟩
    have hlen6 := ownU_len ho6
    obtain ⟨ao6, cap6, hv6, hu6⟩ := ownU_us ho6 hrrR.out
    rw [hv6]
    have HB6 := hide (HB5.out.trans (hb6.mono HB5.out.size))
    have HU6 := hide hu6
    have hcv : (convert 23 9 (.slice a2 len2 cap2)).run Try.prog w6 = .ok (.string (strOfNums cs)) w6 := conv_bs (H2.out.below HB6.out (Nat.le_refl _))
    obtain ⟨rl, rs, re⟩ := rr
    simp only at hlen6 HU6 hrrR ⊢
    obtain ⟨RL, hRL⟩ : ∃ RL, rl.length = RL := ⟨_, rfl⟩
    rw [hRL] at hlen6 HU6 ⊢
    have HRL := hide hRL
    clear ho6 hb6 hu6 hv6 hRL
    go_wp2_with fail
    refine (refunlist_any (strOfNums cs) len2 cs most w6 (by rw [str_size, H2.out.1]) (by omega) (sz_of cs (range_of hcr.out)) hcr.out hmo hmo2 (rl, rs, re) hrr).mono ?_
    rintro e w7 ⟨v7, rfl, ho7, hb7⟩
    obtain ⟨ao7, cap7, hv7, hu7⟩ := ownU_us ho7 hrrR.out
    simp only at hv7 hu7 ⊢
    rw [HRL.out] at hv7 hu7
    rw [hv7]
    have HB7 := hide (HB6.out.trans (hb7.mono HB6.out.size))
    have HU7 := hide hu7
    have HU67 := hide (HU6.out.below hb7 (Nat.le_refl _))
    clear ho7 hb7 hu7 hv7 hcv HU6
    go_wp2_with fail
    refine (same_eq _ _ RL _ _ rl w7 hlen6 HU67.out HU7.out).mono ?_
    rintro e w8 ⟨rfl, hb8⟩
    have HB8 := hide (HB7.out.trans (hb8.mono HB7.out.size))
    clear hb8 HU67 HU7
    go_wp2_with (go_at_call 11; refine (awake_any _).mono ?_; rintro e w' ⟨rfl, hbel⟩)
    go_ret
    exact ⟨rfl, HB8.out.trans (hbel.mono HB8.out.size)⟩
  case c9 =>
    intro hr v' W hown hgrow
    have HBW : Hid (Below w.heap.size w W) := hide ((HBA.out.alloc HBA.out.size _).grown hgrow (by have := HBA.out.size; simp; omega) (fun k hk => by cases hk))
    have hO : Own W (w3.alloc (.cells #[.int .u8 9] 5)).heap.size v' (li ns ++ [9]) := by
      unfold Own
      rw [List.length_append, List.length_cons, List.length_nil, ← hk3.out]
      simpa [bv] using hown
    obtain ⟨g', cap', hv, hlc, hcmW, hbs⟩ := own_at hO (cat_range hlr.out (by decide)) (LP - len0 + 1) (by rw [List.length_append, hk3.out]; rfl) (by omega)
    rw [hv]
    have HSW := hide hbs
    clear hO hown hgrow hbs hv HSP HS3 HO1 HS1 HBA
    go_wp2_with fail
    refine (unlist_any (some ⟨g', 0, none⟩) (LP - len0 + 1) cap' (li ns ++ [9]) (len1 : Int) W (by omega) hcmW HSW.out (by omega) (by omega) (ns, ((li ns).length : Int), 0) (hide (ul_whole ns [9] hzn.out (by rw [hnl.out]; omega) (len1 : Int) (by rw [hnl.out]; exact Int.le_refl _)))).mono ?_
    rintro e w4 ⟨v4, rfl, ho4, hb4⟩
    obtain ⟨ao4, cap4, hv4, hu4⟩ := ownU_us ho4 (by
      intro z hz
      obtain ⟨j, hj, rfl⟩ := List.getElem_of_mem hz
      have := hzn.out j
      simpa [List.getD, List.getElem?_eq_getElem hj] using this)
    rw [hnl.out] at hv4 hu4
    rw [hv4]
    simp only
    have HB4 := hide (HBW.out.trans (hb4.mono HBW.out.size))
    have HU4 := hide hu4
    have hlenb : ((((li ns).length : Nat) : Int) != (LP : Int) - (len0 : Int)) = false := by have := hk3.out; simp; omega
    generalize (li ns).length = LL at *
    clear ho4 hb4 hu4 hv4 HSW
    go_wp2_with fail
    refine (same_eq _ _ len1 _ _ ns w4 (by omega) HU4.out (H1.out.below HB4.out (Nat.le_refl _))).mono ?_
    rintro e w5 ⟨rfl, hb5⟩
    have HB5 := hide (HB4.out.trans (hb5.mono HB4.out.size))
    clear hb5 HU4
    go_wp2_with fail
    refine (unlist_any a2 len2 cap2 cs most w5 (by omega) hc2 (H2.out.below HB5.out (Nat.le_refl _)) hmo hmo2 rr hrr).mono ?_
    rintro e w6 ⟨v6, rfl, ho6, hb6⟩
    have hlen6 := ownU_len ho6
    obtain ⟨ao6, cap6, hv6, hu6⟩ := ownU_us ho6 hrrR.out
    rw [hv6]
    have HB6 := hide (HB5.out.trans (hb6.mono HB5.out.size))
    have HU6 := hide hu6
    have hcv : (convert 23 9 (.slice a2 len2 cap2)).run Try.prog w6 = .ok (.string (strOfNums cs)) w6 := conv_bs (H2.out.below HB6.out (Nat.le_refl _))
    obtain ⟨rl, rs, re⟩ := rr
    simp only at hlen6 HU6 hrrR ⊢
    obtain ⟨RL, hRL⟩ : ∃ RL, rl.length = RL := ⟨_, rfl⟩
    rw [hRL] at hlen6 HU6 ⊢
    have HRL := hide hRL
    clear ho6 hb6 hu6 hv6 hRL
    go_wp2_with fail
    refine (refunlist_any (strOfNums cs) len2 cs most w6 (by rw [str_size, H2.out.1]) (by omega) (sz_of cs (range_of hcr.out)) hcr.out hmo hmo2 (rl, rs, re) hrr).mono ?_
    rintro e w7 ⟨v7, rfl, ho7, hb7⟩
    obtain ⟨ao7, cap7, hv7, hu7⟩ := ownU_us ho7 hrrR.out
    simp only at hv7 hu7 ⊢
    rw [HRL.out] at hv7 hu7
    rw [hv7]
    have HB7 := hide (HB6.out.trans (hb7.mono HB6.out.size))
    have HU7 := hide hu7
    have HU67 := hide (HU6.out.below hb7 (Nat.le_refl _))
    clear ho7 hb7 hu7 hv7 hcv HU6
    go_wp2_with fail
    refine (same_eq _ _ RL _ _ rl w7 hlen6 HU67.out HU7.out).mono ?_
    rintro e w8 ⟨rfl, hb8⟩
    have HB8 := hide (HB7.out.trans (hb8.mono HB7.out.size))
    clear hb8 HU67 HU7
    go_wp2_with (go_at_call 11; refine (awake_any _).mono ?_; rintro e w' ⟨rfl, hbel⟩)
    go_ret
    exact ⟨rfl, HB8.out.trans (hbel.mono HB8.out.size)⟩

theorem lists_walk (a0 a1 a2 : Option Addr) (len0 cap0 len1 cap1 len2 cap2 : Nat) (most : Int) (zs ns cs : List Int) (w : World) (h0 : Bs w a0 len0 cap0 zs) (h1 : Us w a1 len1 cap1 ns) (h2 : Bs w a2 len2 cap2 cs) (hm0 : len0 ≤ 9223372036854775807) (hm1 : len1 ≤ 9223372036854775807) (hm2 : len2 ≤ 9223372036854775807) (hc2 : cap2 ≤ 9223372036854775807) (w3 : (Lit.int .i64 most).wf = true) :
    Calls Try.prog 7 #[.slice a0 len0 cap0, .slice a1 len1 cap1, .slice a2 len2 cap2, .int .i64 most] w fun e w' => e = .returned (.bool true) ∧ Below w.heap.size w w' := by
  obtain ⟨hmo2, hmo⟩ := i64_bounds w3
  by_cases hs : len0 ≤ 500 ∧ len1 ≤ 200 ∧ len2 ≤ 2000
  · have hll := li_len ns (by rw [h1.1]; omega)
    exact lists_core a0 a1 a2 len0 cap0 len1 cap1 len2 cap2 most zs ns cs w h0 h1 h2 hs.1 hs.2.1 hs.2.2 hc2 hmo hmo2 _ _ _ _ (hide rfl) (hide rfl) (hide rfl) (by rw [str_size, str_size, h0.1]; have := h1.1; omega) (by rw [str_cat]; simp) (hide rfl)
      _ (hide rfl) (hide (ul_range cs (bs_range h2) most))
  · exact lists_long a0 a1 a2 len0 cap0 len1 cap1 len2 cap2 most w (by omega) hm0 hm1 hm2
theorem row_cap {w : World} {a : Option Addr} {k : IntKind} {len cap : Nat} {zs : List Int}
    (h : (a = none ∧ len = 0 ∧ cap = 0 ∧ zs = []) ∨ ∃ x, a = some x ∧ len ≤ cap ∧ cap ≤ maxLen ∧ zs.length = cap ∧ (∀ i, i < zs.length → w.cell? (x.add i) = some (.int k (zs.getD i 0))) ∧ ∀ n ∈ zs, (Lit.int k n).wf = true) : cap ≤ 9223372036854775807 := by
  rcases h with ⟨_, _, h, _⟩ | ⟨_, _, _, h, _⟩
  · omega
  · unfold maxLen at h; exact h

end Go.Proofs.Ytonfnpcgjcicdaa.Clep
