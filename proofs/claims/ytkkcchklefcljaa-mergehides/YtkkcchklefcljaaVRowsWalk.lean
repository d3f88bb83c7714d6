/- MergeRows: rows are made one, cleaned and purged as the document says, and what is clean is the state of all, walked. No conditions. -/
import Derived.Test.YtkkcchklefcljaaVAwake
import Derived.Test.YtkkcchklefcljaaVRefClean
import Derived.Test.YtkkcchklefcljaaSAsk
import Derived.Test.YtkkcchklefcljaaSRefAsk
import Derived.Test.YtkkcchklefcljaaVTwoWalk
namespace Go.Proofs.Ytkkcchklefcljaa.Clep
open Go.RowKit
set_option linter.unusedVariables false

theorem ansL_of {l : List It} {w : World} {e : Ending} {w' : World} (h : Ans l w e w') : AnsL l w e w' := by
  obtain ⟨a, c, h1, h2, h3, h4⟩ := h
  exact ⟨a, _, c, h1, h2, h3, h4⟩
theorem ansL_ofO {l : List It} {w : World} {e : Ending} {w' : World} (h : AnsO l w e w') : AnsL l w e w' := by
  obtain ⟨a, c, h1, h2, h3, h4, _⟩ := h
  exact ⟨a, _, c, h1, h2, h3, h4⟩
/-- What is clean of rising rows of items that may be is the state of all. -/
theorem clean_state {ls : List (List It)} {L : List It} (h : Mrg ls L) (hr : ∀ l ∈ ls, Rise l) (hk : ∀ l ∈ ls, ∀ x ∈ l, x.ok = true) : clL L = ofL ls.flatten := by
  have hb := h.bst hr
  refine ofL_uniq ⟨List.Pairwise.filter _ hb.1, fun x hx => ?_, fun t ht x hx => ?_, fun x hx => ?_⟩
  · obtain ⟨l, hl, hm⟩ := hb.2.1 x (List.mem_filter.1 hx).1
    exact ⟨List.mem_flatten.2 ⟨l, hl, hm⟩, hk l hl x hm⟩
  · have h1 := (List.mem_filter.1 hx).2
    have h2 : hidB L x = false := by simpa using h1
    unfold hidB at h2
    rw [List.any_eq_false] at h2
    have := h2 t (List.mem_filter.1 ht).1
    simpa using this
  · obtain ⟨l, hl, hm⟩ := List.mem_flatten.1 hx.1
    obtain ⟨y, hy, hs, hw⟩ := hb.2.2 x ⟨l, hl, hm⟩
    cases hh : hidB L y with
    | false => exact ⟨y, List.mem_filter.2 ⟨hy, by simp [hh]⟩, .inl ⟨hs, hw⟩⟩
    | true =>
      unfold hidB at hh
      obtain ⟨t, ht, htt⟩ := List.any_eq_true.1 hh
      refine ⟨t, tomb_cl ht (hides_iff.1 htt).1, .inr ?_⟩
      rw [hides_iff] at htt ⊢
      rw [same_iff] at hs
      rw [nwins_iff] at hw
      omega
set_option maxRecDepth 100000 in
theorem without_any (a : Option Addr) (n c : Nat) (l : List It) (v : Int) (w : World) (h : Is w a n c l) (hn : n ≤ 1000000) :
    Calls Try.prog 15 #[.slice a n c, .int .u64 v] w (AnsL ((clL l).filter (purgeP v)) w) := by
  have C1 := hide (clean_any a n c l w h hn)
  have hln := h.1
  clear h
  go_enter Try.func15, Try.ntmps15
  go_wp2_with fail
  refine C1.out.mono ?_
  rintro e w1 ⟨a1, n1, c1, rfl, hI1, hc1, hb1⟩
  have hn1 : n1 ≤ 1000000 := by rw [← hI1.1]; have := clL_len l; omega
  have C2 := hide (purge_any a1 n1 c1 (clL l) v w1 hI1 (by omega))
  have B1 := hide hb1
  clear C1 hI1 hb1
  go_wp2_with fail
  refine C2.out.mono ?_
  rintro e w2 h2
  obtain ⟨a2, n2, c2, rfl, hI2, hc2, hb2⟩ := ansL_of h2
  have HA := hide (show AnsL ((clL l).filter (purgeP v)) w (.returned (.slice a2 n2 c2)) w2 from ⟨a2, n2, c2, rfl, hI2, hc2, bmore B1.out hb2⟩)
  clear C2 h2 hI2 hb2
  go_wp2
  go_ret
  exact HA.out
set_option maxRecDepth 100000 in
set_option maxHeartbeats 4000000 in
theorem rows_walk (a : Option Addr) (n c : Nat) (zs : List Sl) (v : Int) (w : World) (h : Rws w a n c zs) (hn : n ≤ 9223372036854775807) :
    Calls Try.prog 3 #[.slice a n c, .int .u64 v] w fun e w' => e = .returned (.bool true) ∧ Below w.heap.size w w' := by
  have CR := hide (lrows_any a n c zs w h hn)
  have hR := hide (lawR_rise zs)
  have hK := hide (lawR_ok zs)
  have hL := hide (lawR_len zs)
  have hS := lawR_size zs
  generalize lawR zs = ls at *
  clear h
  go_enter Try.func3, Try.ntmps3
  go_wp2_with fail
  refine CR.out.mono ?_
  rintro e w1 ⟨a1, n1, c1, ys, rfl, hr, hc1, hym, hb1⟩
  have hy1 := hide hr.1
  have hyn := hide (show n1 = ls.length by have := congrArg List.length hym; rw [List.length_map] at this; have := hy1.out; omega)
  have hn8 : n1 ≤ 8 := by have := hyn.out; omega
  have H0 := hide (fun W (hW : Below w1.heap.size w1 W) => hr.below hW (Nat.le_refl _))
  have hflat : Hid (ls.flatten.length ≤ 320) := hide (by
    have h1 : ∀ m : List (List It), (∀ l ∈ m, l.length ≤ 40) → m.flatten.length ≤ m.length * 40 := fun m => by
      induction m with
      | nil => intro _; simp
      | cons a m ih =>
        intro hm
        have := ih (fun l hl => hm l (by simp [hl]))
        have := hm a (by simp)
        simp only [List.flatten_cons, List.length_append, List.length_cons]; omega
    have h2 := h1 ls hL.out
    omega)
  have HYM := hide hym
  have hsz : sumL ys ≤ 320 := by rw [← flat_len, HYM.out]; exact hflat.out
  have C1 := hide (mrows_any n1 a1 n1 c1 ys w1 (Nat.le_refl _) hr hc1 (by omega) (by omega))
  have HRY : Hid (∀ z ∈ ys, Rise z.l) := hide fun z hz => hR.out z.l (by rw [← HYM.out]; exact List.mem_map.2 ⟨z, hz, rfl⟩)
  obtain ⟨L, hLe⟩ : ∃ L, rowsL ys = L := ⟨_, rfl⟩
  have B1 := hide hb1
  clear CR hr hym hb1
  go_wp2_with fail
  refine C1.out.mono ?_
  rintro e w2 ⟨L2, a2, n2, c2, rfl, rs2, hb2, ho2⟩
  have hLL : L2 = L := (mrg_rowsL rs2.mrg HRY.out).trans hLe
  subst hLL
  have HM := hide rs2.mrg
  rw [HYM.out] at HM
  have hlen : Hid (L2.length ≤ 320) := hide (Nat.le_trans HM.out.len hflat.out)
  have C2 := hide (refrows_any a1 n1 c1 ys w2 (H0.out _ hb2) (by omega) (by omega))
  rw [hLe] at C2
  have I2 := hide rs2.is
  have BA := hide hb2
  clear C1 rs2 ho2 hb2 hLe
  go_wp2_with fail
  refine C2.out.mono ?_
  rintro e w3 h3
  obtain ⟨a3, n3, c3, rfl, hI3, hc3, hb3⟩ := ansL_ofO h3
  have hn3 : n3 ≤ 320 := by rw [← hI3.1]; exact hlen.out
  have hn2 : n2 ≤ 320 := by rw [← I2.out.1]; exact hlen.out
  have I2' := hide (I2.out.below hb3 (Nat.le_refl _))
  have I3 := hide hI3
  have BB := hide (bmore BA.out hb3)
  have C3 := hide (clean_any a3 n3 c3 L2 w3 hI3 (by omega))
  clear C2 h3 hI3 hb3 I2 BA
  go_wp2_with fail
  refine C3.out.mono ?_
  rintro e w4 ⟨a4, n4, c4, rfl, hI4, hc4, hb4⟩
  have hn4 : n4 ≤ 320 := by rw [← hI4.1]; exact Nat.le_trans (clL_len _) hlen.out
  have I2 := hide (I2'.out.below hb4 (Nat.le_refl _))
  have I3' := hide (I3.out.below hb4 (Nat.le_refl _))
  have I4 := hide hI4
  have BC := hide (bmore BB.out hb4)
  have C4 := hide (refclean_any a3 n3 c3 L2 w4 I3'.out (by omega))
  clear C3 hI4 hb4 BB I3 I2'
  go_wp2_with fail
  refine C4.out.mono ?_
  rintro e w5 ⟨a5, n5, c5, rfl, hI5, hc5, hb5⟩
  have hn5 : n5 ≤ 320 := by rw [← hI5.1]; exact Nat.le_trans (clL_len _) hlen.out
  have J2 := hide (I2.out.below hb5 (Nat.le_refl _))
  have J3 := hide (I3'.out.below hb5 (Nat.le_refl _))
  have J4 := hide (I4.out.below hb5 (Nat.le_refl _))
  have J5 := hide hI5
  have BD := hide (bmore BC.out hb5)
  have C5 := hide (req_any a2 a3 n2 c2 n3 c3 L2 w5 J2.out J3.out (by omega))
  clear C4 hI5 hb5 BC I3' I2 I4
  go_wp2_with fail
  refine C5.out.mono ?_
  rintro e w6 ⟨rfl, hb6⟩
  have K3 := hide (J3.out.below hb6 (Nat.le_refl _))
  have K4 := hide (J4.out.below hb6 (Nat.le_refl _))
  have K5 := hide (J5.out.below hb6 (Nat.le_refl _))
  have BE := hide (bmore BD.out hb6)
  have C6 := hide (req_any a4 a5 n4 c4 n5 c5 (clL L2) w6 K4.out K5.out (by omega))
  clear C5 hb6 BD J2 J3 J4 J5
  go_wp2_with fail
  refine C6.out.mono ?_
  rintro e w7 ⟨rfl, hb7⟩
  have M3 := hide (K3.out.below hb7 (Nat.le_refl _))
  have M4 := hide (K4.out.below hb7 (Nat.le_refl _))
  have M5 := hide (K5.out.below hb7 (Nat.le_refl _))
  have BF := hide (bmore BE.out hb7)
  have C7 := hide (without_any a3 n3 c3 L2 v w7 M3.out (by omega))
  clear C6 hb7 BE K3 K4 K5
  go_wp2_with fail
  refine C7.out.mono ?_
  rintro e w8 ⟨a8, n8, c8, rfl, hI8, hc8, hb8⟩
  have hfl : ((clL L2).filter (purgeP v)).length ≤ 320 := Nat.le_trans (List.length_filter_le _ _) (Nat.le_trans (clL_len _) hlen.out)
  have hn8' : n8 ≤ 320 := by rw [← hI8.1]; exact hfl
  have N4 := hide (M4.out.below hb8 (Nat.le_refl _))
  have N5 := hide (M5.out.below hb8 (Nat.le_refl _))
  have N8 := hide hI8
  have BG := hide (bmore BF.out hb8)
  have C8 := hide (refpurge_any a5 n5 c5 (clL L2) v w8 N5.out (by omega))
  clear C7 hI8 hb8 BF M3 M4 M5 hfl
  go_wp2_with fail
  refine C8.out.mono ?_
  rintro e w9 h9
  obtain ⟨a9, n9, c9, rfl, hI9, hc9, hb9⟩ := ansL_of h9
  have O4 := hide (N4.out.below hb9 (Nat.le_refl _))
  have BH := hide (bmore BG.out hb9)
  have C9 := hide (req_any a8 a9 n8 c8 n9 c9 ((clL L2).filter (purgeP v)) w9 (N8.out.below hb9 (Nat.le_refl _)) hI9 (by omega))
  clear C8 h9 hI9 hb9 BG N4 N5 N8
  go_wp2_with fail
  refine C9.out.mono ?_
  rintro e w10 ⟨rfl, hb10⟩
  have P4 := hide (fun W (hW : Below w10.heap.size w10 W) => O4.out.below (bmore hb10 hW) (Nat.le_refl _))
  have BI := hide (bmore BH.out hb10)
  have HST := hide (clean_state HM.out hR.out hK.out)
  have hfle := hide (fun i => show ((ls.take i).flatten).length ≤ 320 from Nat.le_trans (by
      conv => rhs; rw [← List.take_append_drop i ls, List.flatten_append, List.length_append]
      omega) hflat.out)
  clear C9 hb10 BH O4 HM
  go_wp2_with fail
  go_loopw [10, 11] (fun s10 s11 wr => ∃ k : Nat, k ≤ n1 ∧ s11 = .int .i64 k ∧ Hid (OwnI wr w10.heap.size s10 (ls.take k).flatten) ∧ Hid (Below w10.heap.size w10 wr)) (fun _ s11 _ => n1 - (intOf s11).toNat)
  case atStart => exact ⟨0, by omega, rfl, hide (by simpa using ownI_nil _ _), hide (Below.refl _ _)⟩
  case round =>
    obtain ⟨k, hk, rfl, hO, hB⟩ := hrel
    by_cases hlt : k < n1
    · obtain ⟨y, hy⟩ : ∃ y, ys[k]? = some y := ⟨_, List.getElem?_eq_getElem (by rw [hy1.out]; exact hlt)⟩
      have hRw := H0.out _ (bmore BI.out hB.out)
      obtain ⟨b3, off3, ea, hcell⟩ := hRw.2.2.2 (by omega)
      subst ea
      have hck := hcell k y hy
      have hyk := hide (hRw.2.2.1 y (List.mem_of_getElem? hy)).1
      have hyl : Hid ((ls.take (k + 1)).flatten = (ls.take k).flatten ++ y.l) := hide (by
        have h1 : ls[k]? = some y.l := by rw [← HYM.out, List.getElem?_map, hy]; rfl
        rw [List.take_add_one, h1, List.flatten_append]
        simp)
      have hfk := hfle.out k
      have hly : y.l.length ≤ 40 := hL.out y.l (by rw [← HYM.out]; exact List.mem_map.2 ⟨y, List.mem_of_getElem? hy, rfl⟩)
      have hyn2 := hyk.out.1
      obtain ⟨ya, yn, yc, yl⟩ := y
      simp only at hck hyk hyl hly hyn2
      have hlz : (ls.take k).flatten.length + yn ≤ 3518437208883 := by omega
      have hbs := hide hB.out.size
      clear hRw hcell hy hyn2
      go_wp2_with (first
        | (at_builtin; refine wpList_append_items rfl _ _ rfl w10.heap.size _ _ rfl hO.out _ yn yc yl rfl hyk.out hlz hbs.out ?_; intro v2 w11 o2 g2 k2))
      have O3 := hide o2
      have B3 := hide (hB.out.grown g2 hB.out.size k2)
      go_roundw
      case rel => exact ⟨k + 1, by omega, by go_num, hide (by rw [hyl.out]; exact O3.out), B3⟩
      case measure => simp [intOf]; omega
    · obtain rfl : k = n1 := by omega
      have HE := hide (show ls.take k = ls from List.take_of_length_le (by have := hyn.out; omega))
      rw [HE.out] at hO
      obtain ⟨aa, ca, ea, hca, hIa, _⟩ := ownI_is hO.out (fun x hx => by
        obtain ⟨l, hl, hm⟩ := List.mem_flatten.1 hx
        rw [← HYM.out] at hl
        obtain ⟨z, hz, rfl⟩ := List.mem_map.1 hl
        exact ((H0.out _ (bmore BI.out hB.out)).2.2.1 z hz).1.2.2.1 x hm)
      subst ea
      have hfa := hflat.out
      generalize hna : ls.flatten.length = na at *
      have CA := hide (of_any aa na ca ls.flatten wr hIa (by omega))
      rw [← HST.out] at CA
      have PB := hide (P4.out _ hB.out)
      have BJ := hide (bmore B1.out (bmore BI.out hB.out))
      clear hIa hO hna
      go_wp2_with fail
      refine CA.out.mono ?_
      rintro e w12 h12
      obtain ⟨a12, n12, c12, rfl, hI12, hc12, hb12⟩ := ansL_of h12
      have CB := hide (req_any a4 a12 n4 c4 n12 c12 (clL L2) w12 (PB.out.below hb12 (Nat.le_refl _)) hI12 (by omega))
      have BK := hide (bmore BJ.out hb12)
      clear CA h12 hI12 hb12
      go_wp2_with (first
        | (go_at_call 14; refine CB.out.mono ?_; rintro e w13 ⟨rfl, hb13⟩; have BL := hide (bmore BK.out hb13))
        | (go_at_call 18; refine (vawake_any _).mono ?_; rintro e w14 ⟨rfl, hb14⟩; have BM := hide (bmore BL.out hb14)))
      go_ret
      exact ⟨rfl, BM.out⟩

end Go.Proofs.Ytkkcchklefcljaa.Clep
