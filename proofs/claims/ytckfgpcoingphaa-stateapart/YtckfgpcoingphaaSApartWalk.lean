/- StateApart, walked: for any two lists and any series. No conditions. -/
import Derived.Test.YtckfgpcoingphaaSApartMath
namespace Go.Proofs.Ytckfgpcoingphaa.Clep
open Go.RowKit
set_option linter.unusedVariables false

theorem ownI_shape {w : World} {B : Nat} {a : Option Addr} {n c : Nat} {m : List It} (h : OwnI w B (.slice a n c) m) : n = m.length ∧ (0 < n → ∃ g, a = some ⟨g, 0, none⟩ ∧ B ≤ g ∧ g < w.heap.size) := by
  obtain ⟨hl, ⟨e0, h0⟩ | ⟨g, cap, cur, e0, hg, hh, hnc, hcm, hcs, ht⟩⟩ := h
  · cases e0; exact ⟨h0.symm, fun h => by omega⟩
  · cases e0; exact ⟨rfl, fun _ => ⟨g, rfl, hg, (Array.getElem?_eq_some_iff.1 hh).1⟩⟩
theorem ownI_vi {w : World} {B g n c i : Nat} {m : List It} {x : It} (h : OwnI w B (.slice (some ⟨g, 0, none⟩) n c) m) (hx : m[i]? = some x) : Vi w g (i * 5) x.S x.K x.T x.V x.X ∧ w.frozen? ⟨g, i * 5, none⟩ = false := by
  have h0 := h
  obtain ⟨hl, ⟨e0, _⟩ | ⟨g', cap, cur, e0, hg, hh, hnc, hcm, hcs, ht⟩⟩ := h
  · cases e0
  cases e0
  have hc : ∀ j, j < 5 → ∀ u, (cv x)[j]? = some u → w.cell? ⟨g, i * 5 + j, none⟩ = some u := fun j hj u hu => by
    have := World.ownsRow.cells h0 (g := g) rfl (i * 5 + j) u (by rw [cvs_get m i j x hx hj]; exact hu)
    rw [add_plain] at this
    simpa using this
  exact ⟨⟨hc 0 (by omega) _ rfl, hc 1 (by omega) _ rfl, hc 2 (by omega) _ rfl, hc 3 (by omega) _ rfl, hc 4 (by omega) _ rfl⟩, by simp [World.frozen?, hh]⟩
/-- In a loop over a row: what was looked at has the parity p. -/
structure Ev (w wr : World) (B : Nat) (v : Value) (n i : Nat) (m : List It) (p : Int) : Prop where
  own : OwnI wr B v m
  len : m.length = n
  par : ∀ j z, j < i → m[j]? = some z → z.S % 2 = p
  wf : ∀ z ∈ m, z.wf
theorem Ev.step {w wr : World} {B g n c i : Nat} {m : List It} {p : Int} {x : It} (h : Ev w wr B (.slice (some ⟨g, 0, none⟩) n c) n i m p) (hx : m[i]? = some x) (s : Int) (hs : s % 2 = p) (h0 : 0 ≤ s) (h1 : s ≤ 127) :
    Ev w (wr.setCell ⟨g, i * 5, none⟩ (.int .i64 s)) B (.slice (some ⟨g, 0, none⟩) n c) n (i + 1) (m.set i ⟨s, x.K, x.T, x.V, x.X⟩) p := by
  have hi : i < m.length := (List.getElem?_eq_some_iff.1 hx).1
  refine ⟨ownI_series h.own hx s, by rw [List.length_set]; exact h.len, fun j z hj hz => ?_, fun z hz => ?_⟩
  · by_cases e : j = i
    · rw [e, List.getElem?_set_self hi] at hz
      cases hz; exact hs
    · rw [List.getElem?_set_ne (by omega)] at hz
      exact h.par j z (by omega) hz
  · rcases List.mem_or_eq_of_mem_set hz with h2 | h2
    · exact h.wf z h2
    · have := h.wf x (List.mem_of_getElem? hx)
      rw [h2]
      unfold It.wf at this ⊢
      simp only
      omega

set_option maxRecDepth 4000 in
set_option maxHeartbeats 8000000 in
theorem apart_walk (a0 a1 : Option Addr) (len0 cap0 len1 cap1 : Nat) (la lb : List It) (sx : Int) (w : World) (h0 : Is w a0 len0 cap0 la) (h1 : Is w a1 len1 cap1 lb) (hm0 : len0 ≤ 9223372036854775807) (hm1 : len1 ≤ 9223372036854775807) :
    Calls Try.prog 4 #[.slice a0 len0 cap0, .slice a1 len1 cap1, .int .i64 sx] w fun e w' => e = .returned (.bool true) ∧ Below w.heap.size w w' := by
  have HA := hide h0.1
  have HBl := hide h1.1
  have H0 := hide (fun W (hW : Below w.heap.size w W) => h0.below hW (Nat.le_refl _))
  have H1 := hide (fun W (hW : Below w.heap.size w W) => h1.below hW (Nat.le_refl _))
  have W0 := hide h0.2.2.1
  have W1 := hide h1.2.2.1
  clear h0 h1
  obtain ⟨sv, hsv⟩ : ∃ t, bits .and .i64 sx 127 = t := ⟨_, rfl⟩
  have hsvb := and127 sx
  rw [hsv] at hsvb
  by_cases hl0 : 40 < len0
  · go_enter Try.func4, Try.ntmps4
    go_wp2_with fail
    refine (awake6_any _).mono ?_
    rintro e w1 ⟨rfl, b1⟩
    go_wp2
    go_ret
    exact ⟨rfl, b1⟩
  by_cases hl1 : 40 < len1
  · go_enter Try.func4, Try.ntmps4
    go_wp2_with fail
    refine (awake6_any _).mono ?_
    rintro e w1 ⟨rfl, b1⟩
    go_wp2
    go_ret
    exact ⟨rfl, b1⟩
  have D0 := hide ((Below.refl _ w).alloc (Nat.le_refl _) (Obj.cells #[] 29))
  have OE := hide (ownI_empty (w := w.alloc (Obj.cells #[] 29)) (B := w.heap.size) (hpS w (Obj.cells #[] 29) _ rfl) (Nat.le_refl _))
  have N0 : Hid (([] : List It).length + len0 ≤ 1099511627776) := hide (by simp; omega)
  have N1 : Hid (([] : List It).length + len1 ≤ 1099511627776) := hide (by simp; omega)
  go_enter Try.func4, Try.ntmps4
  go_wp2_with (first
    | (at_builtin; refine wpList_append_items rfl _ _ rfl w.heap.size (.slice (some ⟨w.heap.size, 0, none⟩) 0 0) [] rfl OE.out a0 len0 cap0 la rfl (H0.out _ D0.out) N0.out D0.out.size ?_; intro v2 w2 o2 g2 k2; have O2 := hide o2; have B2 := hide (D0.out.grown g2 D0.out.size k2); have D2 := hide (B2.out.alloc B2.out.size (Obj.cells #[] 29)); have OE2 := hide (ownI_empty (w := w2.alloc (Obj.cells #[] 29)) (B := w2.heap.size) (hpS w2 (Obj.cells #[] 29) _ rfl) (Nat.le_refl _)); have hl2 : Hid (∀ k, v2.ownBlock = some k → k < w2.heap.size) := hide (fun k hk => (World.ownsRow.lt o2 k hk).2); have hs2 : Hid (w2.heap.size ≤ (w2.alloc (Obj.cells #[] 29)).heap.size) := hide (by simp); clear o2 g2 k2)
    | (at_builtin; refine wpList_append_items rfl _ _ rfl w2.heap.size (.slice (some ⟨w2.heap.size, 0, none⟩) 0 0) [] rfl OE2.out a1 len1 cap1 lb rfl (H1.out _ D2.out) N1.out hs2.out ?_; intro v4 w4 o4 g4 k4; have O4 := hide o4; have B4 := hide (D2.out.grown g4 D2.out.size (fun k hk => by have := k4 k hk; have := B2.out.size; omega)); have O2b := hide (World.ownsRow.kept (ownI_keep O2.out ((Below.refl _ _).alloc (Nat.le_refl _) (Obj.cells #[] 29))) g4 (.inr (fun e => by have := hl2.out w2.heap.size e; omega))); clear o4 g4 k4)
    | fail)
  obtain ⟨ax, nx, cx, evx⟩ := ownI_slice O2b.out
  obtain ⟨ay, ny, cy, evy⟩ := ownI_slice O4.out
  subst evx evy
  have hnx : nx = len0 := by have h9 := (ownI_shape O2b.out).1; rw [List.nil_append] at h9; have := HA.out; omega
  have hny : ny = len1 := by have h9 := (ownI_shape O4.out).1; rw [List.nil_append] at h9; have := HBl.out; omega
  subst hnx hny
  rw [List.nil_append] at O2b O4
  have hxlt : Hid (∀ g, ax = some ⟨g, 0, none⟩ → g < w2.heap.size) := hide fun g hg => hl2.out g (by rw [hg]; rfl)
  have E0 : Hid (Ev w w4 w.heap.size (.slice ax nx cx) nx 0 la 0) := hide ⟨O2b.out, HA.out, fun j z hj => by omega, W0.out⟩
  have F0 : Hid (Ev w w4 w2.heap.size (.slice ay ny cy) ny 0 lb 1) := hide ⟨O4.out, HBl.out, fun j z hj => by omega, W1.out⟩
  have hw2 : Hid (w.heap.size ≤ w2.heap.size) := hide B2.out.size
  clear O2 O4 O2b OE OE2 D0 D2 N0 N1 hl2 hs2 W0 W1 H0 H1 B2
  go_loopw [9] (fun s9 wr => ∃ (i : Nat) (m : List It), i ≤ nx ∧ s9 = .int .i64 i ∧ Hid (Ev w wr w.heap.size (.slice ax nx cx) nx i m 0) ∧ Hid (Ev w wr w2.heap.size (.slice ay ny cy) ny 0 lb 1) ∧ Hid (Below w.heap.size w wr)) (fun s9 _ => nx - (intOf s9).toNat)
  case atStart => exact ⟨0, la, by omega, rfl, E0, F0, B4⟩
  case round =>
    obtain ⟨i, m, hi, rfl, hev, hf, hbel⟩ := hrel
    by_cases hlt : i < nx
    · obtain ⟨g, hg, hgB, hgs⟩ := (ownI_shape hev.out.own).2 (by omega)
      subst hg
      obtain ⟨x, hx⟩ : ∃ x, m[i]? = some x := ⟨_, List.getElem?_eq_getElem (by rw [hev.out.len]; exact hlt)⟩
      obtain ⟨hv, hz⟩ := ownI_vi hev.out.own hx
      have hd := and126 x.S
      have EV := hide (hev.out.step hx (bits .and .i64 x.S 126) hd.2.2 hd.1 (by omega))
      have FV : Hid (Ev w (wr.setCell ⟨g, i * 5, none⟩ (.int .i64 (bits .and .i64 x.S 126))) w2.heap.size (.slice ay ny cy) ny 0 lb 1) := hide ⟨ownI_grown hf.out.own (gb_set wr ⟨g, i * 5, none⟩ _) (fun k hk => by cases hk; exact hxlt.out g rfl), hf.out.len, hf.out.par, hf.out.wf⟩
      have BV := hide (hbel.out.setCell (p := ⟨g, i * 5, none⟩) hgB (.int .i64 (bits .and .i64 x.S 126)))
      obtain ⟨S, K, T, V, X⟩ := x
      simp only at hv EV FV BV hd
      unfold Vi at hv
      obtain ⟨v0, v1, v2, v3, v4⟩ := hv
      clear hx hd hev hf hbel
      go_wp2
      go_roundw
      case rel => exact ⟨i + 1, _, by omega, by go_num, EV, FV, BV⟩
      case measure => simp [intOf]; omega
    · have hin : i = nx := by omega
      subst hin
      have HEV : Hid (∀ z ∈ m, z.S % 2 = 0) := hide fun z hz => by
        obtain ⟨j, hj, e⟩ := List.getElem_of_mem hz
        exact hev.out.par j z (by rw [← hev.out.len]; exact hj) (by rw [List.getElem?_eq_getElem hj, e])
      have EX := hide hev.out
      clear hev
      go_wp2_with fail
      go_loopw [10] (fun s10 wr => ∃ (k : Nat) (m2 : List It), k ≤ ny ∧ s10 = .int .i64 k ∧ Hid (Ev w wr w.heap.size (.slice ax i cx) i i m 0) ∧ Hid (Ev w wr w2.heap.size (.slice ay ny cy) ny k m2 1) ∧ Hid (Below w.heap.size w wr)) (fun s10 _ => ny - (intOf s10).toNat)
      case atStart => exact ⟨0, lb, by omega, rfl, EX, hf, hbel⟩
      case round =>
        obtain ⟨k, m2, hk, rfl, hex, hfv, hb2⟩ := hrel
        by_cases hlk : k < ny
        · obtain ⟨g, hg, hgB, hgs⟩ := (ownI_shape hfv.out.own).2 (by omega)
          subst hg
          obtain ⟨x, hx⟩ : ∃ x, m2[k]? = some x := ⟨_, List.getElem?_eq_getElem (by rw [hfv.out.len]; exact hlk)⟩
          obtain ⟨hv, hz⟩ := ownI_vi hfv.out.own hx
          have hd0 := and126 x.S
          have hd := or1 (bits .and .i64 x.S 126) hd0.1 (by omega)
          have FV := hide (hfv.out.step hx (bits .or .i64 (bits .and .i64 x.S 126) 1) hd.2.2 hd.1 (by omega))
          have EV : Hid (Ev w (wr.setCell ⟨g, k * 5, none⟩ (.int .i64 (bits .or .i64 (bits .and .i64 x.S 126) 1))) w.heap.size (.slice ax i cx) i i m 0) := hide ⟨World.ownsRow.kept hex.out.own (gb_set wr ⟨g, k * 5, none⟩ _) (by
            cases ax with
            | none => exact .inl rfl
            | some aa =>
              refine .inr fun e => ?_
              have hsh := hex.out.own
              obtain ⟨_, ⟨e0, _⟩ | ⟨g', cap', cur, e0, _⟩⟩ := hsh
              · cases e0
              · cases e0
                have := hxlt.out _ rfl
                simp [Value.ownBlock] at e
                omega), hex.out.len, hex.out.par, hex.out.wf⟩
          have BV := hide (hb2.out.setCell (p := ⟨g, k * 5, none⟩) (by have := hw2.out; show w.heap.size ≤ g; omega) (.int .i64 (bits .or .i64 (bits .and .i64 x.S 126) 1)))
          obtain ⟨S, K, T, V, X⟩ := x
          simp only at hv EV FV BV hd hd0
          unfold Vi at hv
          obtain ⟨v0, v1, v2, v3, v4⟩ := hv
          clear hx hd hd0 hex hfv hb2
          go_wp2
          go_roundw
          case rel => exact ⟨k + 1, _, by omega, by go_num, EV, FV, BV⟩
          case measure => simp [intOf]; omega
        · have hkn : k = ny := by omega
          subst hkn
          have HOD : Hid (∀ z ∈ m2, z.S % 2 = 1) := hide fun z hz => by
            obtain ⟨j, hj, e⟩ := List.getElem_of_mem hz
            exact hfv.out.par j z (by rw [← hfv.out.len]; exact hj) (by rw [List.getElem?_eq_getElem hj, e])
          obtain ⟨ax', cx', e1, hcx, ix, -⟩ := ownI_is hex.out.own hex.out.wf
          rw [hex.out.len] at e1 ix
          cases e1
          obtain ⟨ay', cy', e2, hcy, iy, -⟩ := ownI_is hfv.out.own hfv.out.wf
          rw [hfv.out.len] at e2 iy
          cases e2
          have LX := hide ix.1
          have LY := hide iy.1
          have I_x := hide ix
          have I_y := hide iy
          have HB0 := hide hb2.out
          have HB := hide (Below.refl wr.heap.size wr)
          clear ix iy hex hfv hb2 hf hbel EX
          go_wp2_with fail
          refine (of_any _ _ _ _ _ I_x.out (by omega)).mono ?_
          intro e w1 hans
          obtain ⟨a_p, n_p, c_p, rfl, i_p, b1⟩ := ans_n hans
          have N_p : n_p ≤ 40 := by have hq := i_p.1; have := ofL_len m; have := LX.out; omega
          have I_p := hide i_p
          clear hans i_p
          replace I_x := hide (I_x.out.below b1 (Nat.le_refl _))
          replace I_y := hide (I_y.out.below b1 (Nat.le_refl _))
          replace HB := hide (bmore HB.out b1)
          clear b1
          go_wp2_with fail
          refine (join_any _ _ _ _ _ _ _ _ _ I_p.out I_y.out (by omega) (by omega)).mono ?_
          intro e w2 hans
          obtain ⟨a_j, n_j, c_j, rfl, i_j, b2⟩ := ans_n hans
          have N_j : n_j ≤ 80 := by have hq := i_j.1; have h9 := ofL_len (ofL m ++ m2); rw [List.length_append] at h9; have := ofL_len m; have := LX.out; have := LY.out; omega
          have I_j := hide i_j
          clear hans i_j
          replace I_x := hide (I_x.out.below b2 (Nat.le_refl _))
          replace I_y := hide (I_y.out.below b2 (Nat.le_refl _))
          replace I_p := hide (I_p.out.below b2 (Nat.le_refl _))
          replace HB := hide (bmore HB.out b2)
          clear b2
          go_wp2_with fail
          refine (series_any _ _ _ _ sv _ I_j.out (by omega)).mono ?_
          intro e w3 hans
          obtain ⟨a_b, n_b, c_b, rfl, i_b, b3⟩ := ans_n hans
          have N_b : n_b ≤ 80 := by have hq := i_b.1; have := List.length_filter_le (fun x : It => x.S == sv) (ofL (ofL m ++ m2)); have := I_j.out.1; omega
          have I_b := hide i_b
          clear hans i_b
          replace I_x := hide (I_x.out.below b3 (Nat.le_refl _))
          replace I_y := hide (I_y.out.below b3 (Nat.le_refl _))
          replace I_p := hide (I_p.out.below b3 (Nat.le_refl _))
          replace I_j := hide (I_j.out.below b3 (Nat.le_refl _))
          replace HB := hide (bmore HB.out b3)
          clear b3
          clear I_p
          clear I_j
          go_wp2_with fail
          refine (of_any _ _ _ _ _ I_x.out (by omega)).mono ?_
          intro e w4 hans
          obtain ⟨a_p, n_p, c_p, rfl, i_p, b4⟩ := ans_n hans
          have N_p : n_p ≤ 40 := by have hq := i_p.1; have := ofL_len m; have := LX.out; omega
          have I_p := hide i_p
          clear hans i_p
          replace I_x := hide (I_x.out.below b4 (Nat.le_refl _))
          replace I_y := hide (I_y.out.below b4 (Nat.le_refl _))
          replace I_b := hide (I_b.out.below b4 (Nat.le_refl _))
          replace HB := hide (bmore HB.out b4)
          clear b4
          go_wp2_with fail
          refine (series_any _ _ _ _ sv _ I_p.out (by omega)).mono ?_
          intro e w5 hans
          obtain ⟨a_c, n_c, c_c, rfl, i_c, b5⟩ := ans_n hans
          have N_c : n_c ≤ 40 := by have hq := i_c.1; have := List.length_filter_le (fun x : It => x.S == sv) (ofL m); have := I_p.out.1; omega
          have I_c := hide i_c
          clear hans i_c
          replace I_x := hide (I_x.out.below b5 (Nat.le_refl _))
          replace I_y := hide (I_y.out.below b5 (Nat.le_refl _))
          replace I_b := hide (I_b.out.below b5 (Nat.le_refl _))
          replace I_p := hide (I_p.out.below b5 (Nat.le_refl _))
          replace HB := hide (bmore HB.out b5)
          clear b5
          clear I_p
          by_cases hpar : sv % 2 = 1
          · have hsb : (bits .and .i64 sv 1 == 1) = true := by rw [and1 sv hsvb.1 hsvb.2]; simp [hpar]
            have HP := hide hpar
            clear hpar
            go_wp2_with fail
            refine (of_any _ _ _ _ _ I_y.out (by omega)).mono ?_
            intro e w6 hans
            obtain ⟨a_p, n_p, c_p, rfl, i_p, b6⟩ := ans_n hans
            have N_p : n_p ≤ 40 := by have hq := i_p.1; have := ofL_len m2; have := LY.out; omega
            have I_p := hide i_p
            clear hans i_p
            replace I_x := hide (I_x.out.below b6 (Nat.le_refl _))
            replace I_y := hide (I_y.out.below b6 (Nat.le_refl _))
            replace I_b := hide (I_b.out.below b6 (Nat.le_refl _))
            replace I_c := hide (I_c.out.below b6 (Nat.le_refl _))
            replace HB := hide (bmore HB.out b6)
            clear b6
            go_wp2_with fail
            refine (series_any _ _ _ _ sv _ I_p.out (by omega)).mono ?_
            intro e w7 hans
            obtain ⟨a_d, n_d, c_d, rfl, i_d, b7⟩ := ans_n hans
            have N_d : n_d ≤ 40 := by have hq := i_d.1; have := List.length_filter_le (fun x : It => x.S == sv) (ofL m2); have := I_p.out.1; omega
            have I_d := hide i_d
            clear hans i_d
            replace I_x := hide (I_x.out.below b7 (Nat.le_refl _))
            replace I_y := hide (I_y.out.below b7 (Nat.le_refl _))
            replace I_b := hide (I_b.out.below b7 (Nat.le_refl _))
            replace I_c := hide (I_c.out.below b7 (Nat.le_refl _))
            replace I_p := hide (I_p.out.below b7 (Nat.le_refl _))
            replace HB := hide (bmore HB.out b7)
            clear b7
            go_wp2_with fail
            refine (refequal_any _ _ _ _ _ _ _ _ _ I_b.out I_d.out (by omega) (by omega)).mono ?_
            rintro e w8 ⟨o, rfl, ho, b8⟩
            obtain rfl : o = true := ho.2 (apart_odd HEV.out HP.out)
            clear ho
            replace I_x := hide (I_x.out.below b8 (Nat.le_refl _))
            replace I_y := hide (I_y.out.below b8 (Nat.le_refl _))
            replace I_b := hide (I_b.out.below b8 (Nat.le_refl _))
            replace I_c := hide (I_c.out.below b8 (Nat.le_refl _))
            replace I_p := hide (I_p.out.below b8 (Nat.le_refl _))
            replace I_d := hide (I_d.out.below b8 (Nat.le_refl _))
            replace HB := hide (bmore HB.out b8)
            clear b8
            go_wp2_with fail
            refine (awake6_any _).mono ?_
            rintro e w9 ⟨rfl, b9⟩
            replace I_x := hide (I_x.out.below b9 (Nat.le_refl _))
            replace I_y := hide (I_y.out.below b9 (Nat.le_refl _))
            replace I_b := hide (I_b.out.below b9 (Nat.le_refl _))
            replace I_c := hide (I_c.out.below b9 (Nat.le_refl _))
            replace I_p := hide (I_p.out.below b9 (Nat.le_refl _))
            replace I_d := hide (I_d.out.below b9 (Nat.le_refl _))
            replace HB := hide (bmore HB.out b9)
            clear b9
            replace HB := hide (bmore HB0.out HB.out)
            go_wp2
            go_ret
            exact ⟨rfl, HB.out⟩
          · have hsb : (bits .and .i64 sv 1 == 1) = false := by rw [and1 sv hsvb.1 hsvb.2]; simp; omega
            have HP := hide hpar
            clear hpar
            go_wp2_with fail
            refine (refequal_any _ _ _ _ _ _ _ _ _ I_b.out I_c.out (by omega) (by omega)).mono ?_
            rintro e w6 ⟨o, rfl, ho, b6⟩
            obtain rfl : o = true := ho.2 (apart_even HOD.out HP.out)
            clear ho
            replace I_x := hide (I_x.out.below b6 (Nat.le_refl _))
            replace I_y := hide (I_y.out.below b6 (Nat.le_refl _))
            replace I_b := hide (I_b.out.below b6 (Nat.le_refl _))
            replace I_c := hide (I_c.out.below b6 (Nat.le_refl _))
            replace HB := hide (bmore HB.out b6)
            clear b6
            go_wp2_with fail
            refine (awake6_any _).mono ?_
            rintro e w7 ⟨rfl, b7⟩
            replace I_x := hide (I_x.out.below b7 (Nat.le_refl _))
            replace I_y := hide (I_y.out.below b7 (Nat.le_refl _))
            replace I_b := hide (I_b.out.below b7 (Nat.le_refl _))
            replace I_c := hide (I_c.out.below b7 (Nat.le_refl _))
            replace HB := hide (bmore HB.out b7)
            clear b7
            replace HB := hide (bmore HB0.out HB.out)
            go_wp2
            go_ret
            exact ⟨rfl, HB.out⟩

end Go.Proofs.Ytckfgpcoingphaa.Clep
