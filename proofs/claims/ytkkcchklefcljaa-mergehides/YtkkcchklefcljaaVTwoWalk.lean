/- MergeTwo: rows merged two by two are the row of all, merged with itself a row is itself, overlapping is told the same both ways, walked. No conditions. -/
import Derived.Test.YtkkcchklefcljaaVAwake
import Derived.Test.YtkkcchklefcljaaVCleanW
namespace Go.Proofs.Ytkkcchklefcljaa.Clep
open Go.RowKit
set_option linter.unusedVariables false

theorem bst_trans {A N : It → Prop} {L M : List It} (h : Bst (fun x => A x ∨ x ∈ M) L) (k : Bst N M) : Bst (fun x => A x ∨ N x) L := by
  refine ⟨h.1, fun x hx => ?_, fun x hx => ?_⟩
  · rcases h.2.1 x hx with e | e
    · exact .inl e
    · exact .inr (k.2.1 x e)
  · rcases hx with e | e
    · exact h.2.2 x (.inl e)
    · obtain ⟨y, hy, h1, h2⟩ := k.2.2 x e
      obtain ⟨z, hz, h3, h4⟩ := h.2.2 y (.inr hy)
      refine ⟨z, hz, ?_, ?_⟩
      · rw [same_iff] at *; omega
      · rw [nwins_iff] at *; omega
theorem mrg_more {ms : List (List It)} {a M L : List It} (h : Mrg [a, M] L) (k : Mrg ms M) : Mrg (a :: ms) L := by
  refine ⟨fun x hx => ?_, ?_, fun hr => ?_⟩
  · obtain ⟨l, hl, hx⟩ := h.mem x hx
    simp only [List.mem_cons, List.not_mem_nil, or_false] at hl
    rcases hl with rfl | rfl
    · exact ⟨l, by simp, hx⟩
    · obtain ⟨m, hm, hx⟩ := k.mem x hx
      exact ⟨m, by simp [hm], hx⟩
  · have h1 := h.len
    have h2 := k.len
    simp only [List.flatten_cons, List.flatten_nil, List.length_append, List.length_nil] at *
    omega
  · have kb := k.bst fun l hl => hr l (by simp [hl])
    have hb := h.bst fun l hl => by
      simp only [List.mem_cons, List.not_mem_nil, or_false] at hl
      rcases hl with rfl | rfl
      · exact hr l (by simp)
      · exact kb.1
    refine bst_congr (bst_trans (A := fun x => x ∈ a) (bst_congr hb fun x => by simp) kb) fun x => by simp
theorem mrg_self {a L : List It} (h : Mrg [a, a] L) (hr : Rise a) : L = a :=
  bst_unique (h.bst fun l hl => by
    simp only [List.mem_cons, List.not_mem_nil, or_false, or_self] at hl
    rw [hl]; exact hr) (bst_congr (bst_self hr) fun x => by simp)
theorem mrg_uniq {ls : List (List It)} {L M : List It} (h : Mrg ls L) (k : Mrg ls M) (hr : ∀ l ∈ ls, Rise l) : L = M := bst_unique (h.bst hr) (k.bst hr)
theorem tomb_cl {l : List It} {t : It} (ht : t ∈ l) (hk : t.K = 1) : t ∈ clL l := by
  unfold clL
  rw [List.mem_filter]
  refine ⟨ht, ?_⟩
  have : hidB l t = false := by
    unfold hidB
    rw [List.any_eq_false]
    intro u _
    have : u.hides t = false := by rw [nhides_iff]; omega
    simp [this]
  simp [this]
theorem hidB_cl (l : List It) (x : It) : hidB (clL l) x = hidB l x := by
  cases h : hidB l x with
  | true =>
    unfold hidB at *
    obtain ⟨t, ht, hh⟩ := List.any_eq_true.1 h
    exact List.any_eq_true.2 ⟨t, tomb_cl ht (hides_iff.1 hh).1, hh⟩
  | false =>
    unfold hidB at *
    rw [List.any_eq_false] at *
    intro t ht
    exact h t (List.mem_filter.1 ht).1
theorem clL_clL (l : List It) : clL (clL l) = clL l := by
  show (clL l).filter (fun x => !hidB (clL l) x) = clL l
  rw [List.filter_eq_self]
  intro x hx
  rw [hidB_cl]
  exact (List.mem_filter.1 hx).2
theorem clL_len (l : List It) : (clL l).length ≤ l.length := List.length_filter_le _ _
theorem req_any (a b : Option Addr) (n c n' c' : Nat) (l : List It) (w : World) (h0 : Is w a n c l) (h1 : Is w b n' c' l) (hn : n ≤ 9223372036854775807) :
    Calls Try.prog 14 #[.slice a n c, .slice b n' c'] w fun e w' => e = .returned (.bool true) ∧ Below w.heap.size w w' := by
  have e : n' = n := by rw [← h0.1, ← h1.1]
  refine (refequal_any a b n c n' c' l l w h0 h1 hn (by omega)).mono ?_
  rintro e w' ⟨o, rfl, ho, hb⟩
  exact ⟨by rw [ho.2 rfl], hb⟩
/-- What the outer round keeps. -/
def Two2 (w wr : World) (ls : List (List It)) (s4 s5 : Value) : Prop := ∃ (j : Nat) (z : Int) (L : List It) (a : Option Addr) (m c : Nat), s5 = .int .i64 z ∧ z = (j : Int) - 1 ∧ j ≤ ls.length ∧ s4 = .slice a m c ∧ Rs wr a m c (ls.drop j) L ∧ Below w.heap.size w wr
set_option maxRecDepth 100000 in
set_option maxHeartbeats 4000000 in
theorem two_walk (a : Option Addr) (n c : Nat) (zs : List Sl) (w : World) (h : Rws w a n c zs) (hn : n ≤ 9223372036854775807) :
    Calls Try.prog 5 #[.slice a n c] w fun e w' => e = .returned (.bool true) ∧ Below w.heap.size w w' := by
  have CR := hide (lrows_any a n c zs w h hn)
  have hR := hide (lawR_rise zs)
  have hL := hide (lawR_len zs)
  have hS := lawR_size zs
  generalize lawR zs = ls at *
  clear h
  go_enter Try.func5, Try.ntmps5
  go_wp2_with fail
  refine CR.out.mono ?_
  rintro e w1 ⟨a1, n1, c1, ys, rfl, hr, hc1, hym, hb1⟩
  have hy1 := hide hr.1
  have hyn := hide (show n1 = ls.length by have := congrArg List.length hym; rw [List.length_map] at this; have := hy1.out; omega)
  have hn8 : n1 ≤ 8 := by have := hyn.out; omega
  have H0 := hide (fun W (hW : Below w1.heap.size w1 W) => hr.below hW (Nat.le_refl _))
  have hflat : Hid (∀ j, (ls.drop j).flatten.length ≤ 320) := hide fun j => by
    have h1 : ∀ m : List (List It), (∀ l ∈ m, l.length ≤ 40) → m.flatten.length ≤ m.length * 40 := fun m => by
      induction m with
      | nil => intro _; simp
      | cons a m ih =>
        intro hm
        have := ih (fun l hl => hm l (by simp [hl]))
        have := hm a (by simp)
        simp only [List.flatten_cons, List.length_append, List.length_cons]; omega
    have h2 := h1 (ls.drop j) (fun l hl => hL.out l (List.mem_of_mem_drop hl))
    rw [List.length_drop] at h2; omega
  have HYM := hide hym
  have B1 := hide hb1
  clear CR hr hym hb1
  go_wp2_with fail
  go_loopw [4, 5] (fun s4 s5 wr => Hid (Two2 w1 wr ls s4 s5)) (fun _ s5 _ => (intOf s5 + 1).toNat)
  case atStart => exact hide ⟨n1, (n1 : Int) - 1, [], none, 0, 0, by go_num, rfl, by have := hyn.out; omega, rfl, ⟨by rw [List.drop_of_length_le (by have := hyn.out; omega)]; exact mrg_nil, is_nil _, by omega⟩, Below.refl _ _⟩
  case round =>
    obtain ⟨j, z, L, a4, m4, c4, rfl, hz, hj, rfl, hRs, hB⟩ := hrel.out
    replace hRs := hide hRs
    replace hB := hide hB
    clear hrel
    replace hj : j ≤ n1 := by have := hyn.out; omega
    by_cases hj0 : j = 0
    · subst hj0
      have hzn : z < 0 := by omega
      clear hz
      rw [List.drop_zero] at hRs
      have B2 := hide (bmore B1.out hB.out)
      have hsz : sumL ys ≤ 320 := by
        rw [← flat_len, HYM.out]; have := hflat.out 0; rwa [List.drop_zero] at this
      have C1 := hide (mrows_any n1 a1 n1 c1 ys wr (Nat.le_refl _) (H0.out _ hB.out) hc1 (by omega) (by omega))
      have hm4 : m4 ≤ 320 := by rw [← hRs.out.is.1]; have := hRs.out.mrg.len; have := hflat.out 0; rw [List.drop_zero] at this; omega
      go_wp2_with fail
      refine C1.out.mono ?_
      rintro e w2 ⟨L2, a2, n2, c2, rfl, rs2, hb2, ho2⟩
      rw [HYM.out] at rs2
      have hLL := mrg_uniq rs2.mrg hRs.out.mrg hR.out
      subst hLL
      have IA := hide (hRs.out.is.below hb2 (Nat.le_refl _))
      have C2 := hide (req_any a4 a2 m4 c4 n2 c2 L2 w2 IA.out rs2.is (by omega))
      have B3 := hide (bmore B2.out hb2)
      clear C1 rs2 hb2 ho2 hRs hB B2
      go_wp2_with fail
      refine C2.out.mono ?_
      rintro e w3 ⟨rfl, hb3⟩
      have IA3 := hide (IA.out.below hb3 (Nat.le_refl _))
      have C3 := hide (clean_any a4 m4 c4 L2 w3 IA3.out (by omega))
      have B4 := hide (bmore B3.out hb3)
      clear C2 IA hb3 B3
      go_wp2_with fail
      refine C3.out.mono ?_
      rintro e w4 ⟨a5, n5, c5, rfl, hI5, hc5, hb4⟩
      have hn5 : n5 ≤ 320 := by rw [← hI5.1]; have := clL_len L2; have := IA3.out.1; omega
      have IA4 := hide (IA3.out.below hb4 (Nat.le_refl _))
      have C4 := hide (clean_any a5 n5 c5 (clL L2) w4 hI5 (by omega))
      rw [clL_clL] at C4
      have B5 := hide (bmore B4.out hb4)
      clear C3 IA3 hb4 B4 hI5
      go_wp2_with fail
      refine C4.out.mono ?_
      rintro e w5 ⟨a6, n6, c6, rfl, hI6, hc6, hb5⟩
      have IA5 := hide (IA4.out.below hb5 (Nat.le_refl _))
      have I6 := hide hI6
      have C5 := hide (clean_any a4 m4 c4 L2 w5 IA5.out (by omega))
      have B6 := hide (bmore B5.out hb5)
      have hn6 : n6 ≤ 320 := by rw [← hI6.1]; have := clL_len L2; have := IA5.out.1; omega
      clear C4 IA4 hb5 B5 hI6
      go_wp2_with fail
      refine C5.out.mono ?_
      rintro e w6 ⟨a7, n7, c7, rfl, hI7, hc7, hb6⟩
      have C6 := hide (req_any a6 a7 n6 c6 n7 c7 (clL L2) w6 (I6.out.below hb6 (Nat.le_refl _)) hI7 (by omega))
      have B7 := hide (bmore B6.out hb6)
      clear C5 IA5 hb6 B6 hI7 I6
      go_wp2_with (first
        | (go_at_call 14; refine C6.out.mono ?_; rintro e w7 ⟨rfl, hb7⟩; have B8 := hide (bmore B7.out hb7))
        | (go_at_call 18; refine (vawake_any _).mono ?_; rintro e w8 ⟨rfl, hb8⟩; have B9 := hide (bmore B8.out hb8)))
      go_ret
      exact ⟨rfl, B9.out⟩
    · obtain ⟨i, rfl⟩ : ∃ i, j = i + 1 := ⟨j - 1, by omega⟩
      obtain rfl : z = (i : Int) := by omega
      clear hz
      have hin : i < n1 := by omega
      obtain ⟨y, hy⟩ : ∃ y, ys[i]? = some y := ⟨_, List.getElem?_eq_getElem (by rw [hy1.out]; exact hin)⟩
      have hRw := H0.out _ hB.out
      obtain ⟨b1, off1, ea, hcell⟩ := hRw.2.2.2 (by omega)
      subst ea
      have hci := hide (hcell i y hy)
      have hyi := hide (hRw.2.2.1 y (List.mem_of_getElem? hy))
      have hdr : Hid (ls.drop i = y.l :: ls.drop (i + 1)) := hide (by
        have hi2 : i < ls.length := by have := hyn.out; omega
        rw [List.drop_eq_getElem_cons hi2]
        congr 1
        have h1 : ls[i]? = some y.l := by rw [← HYM.out, List.getElem?_map, hy]; rfl
        exact (List.getElem?_eq_some_iff.1 h1).2)
      have hyr : Hid (Rise y.l) := hide (hR.out y.l (by rw [← HYM.out]; exact List.mem_map.2 ⟨y, List.mem_of_getElem? hy, rfl⟩))
      have hyl : y.l.length ≤ 40 := hL.out y.l (by rw [← HYM.out]; exact List.mem_map.2 ⟨y, List.mem_of_getElem? hy, rfl⟩)
      have hLl : L.length ≤ 320 := by have := hRs.out.mrg.len; have := hflat.out (i + 1); omega
      obtain ⟨ya, yn, yc, yl⟩ := y
      simp only at hci hyi hdr hyr hyl
      have hyn2 : yn ≤ 40 := by rw [← hyi.out.1.1]; exact hyl
      have hm4 : m4 ≤ 320 := by rw [← hRs.out.is.1]; exact hLl
      have A1 := (Below.refl _ wr).alloc (Nat.le_refl _) (Obj.cells #[Value.slice ya yn yc, Value.slice a4 m4 c4] 25)
      have R2 := rws_two (s := ⟨ya, yn, yc, yl⟩) (t := ⟨a4, m4, c4, L⟩) ⟨hyi.out.1.below A1 (Nat.le_refl _), hyi.out.2⟩ ⟨hRs.out.is.below A1 (Nat.le_refl _), by show m4 ≤ _; omega⟩ (hpS wr (Obj.cells #[Value.slice ya yn yc, Value.slice a4 m4 c4] 25) wr.heap.size rfl)
      have C1 := hide (mrows_any 2 _ 2 2 _ _ (by omega) R2 (by omega) (by omega) (by simp [sumL]; omega))
      have HA1 := hide A1
      have hc0 := hci.out
      clear R2 A1 hRw hcell hy
      go_wp2_with fail
      refine C1.out.mono ?_
      rintro e w2 ⟨L2, a2, n2, c2, rfl, rs2, hb2, ho2⟩
      have B2 := hide (bmore hB.out (bmore HA1.out hb2))
      have BW := bmore HA1.out hb2
      have RS2 : Hid (Rs w2 a2 n2 c2 (ls.drop i) L2) := hide ⟨by rw [hdr.out]; exact mrg_more rs2.mrg hRs.out.mrg, rs2.is, rs2.cap⟩
      have HC2 := hide ((BW.cell (p := ⟨b1, off1 + i, none⟩) (World.block_lt_of_cell? wr _ hci.out)).trans hci.out)
      have HY2 := hide (hyi.out.1.below BW (Nat.le_refl _))
      clear C1 rs2 hb2 ho2 HA1 BW hc0 hci hyi hRs
      have HK : Hid (∀ W, Below w2.heap.size w2 W → Below w2.heap.size w2 W ∧ W.cell? ⟨b1, off1 + i, none⟩ = some (.slice ya yn yc)) := hide fun W hW => ⟨hW, (hW.cell (p := ⟨b1, off1 + i, none⟩) (World.block_lt_of_cell? w2 _ HC2.out)).trans HC2.out⟩
      have hk0 : Below w2.heap.size w2 w2 := Below.refl _ _
      have hk1 : Below w2.heap.size w2 w2.drew := hk0.drew
      have A2 : Below w2.heap.size w2 ((w2.alloc (Obj.cells #[Value.slice ya yn yc, Value.slice ya yn yc] 25)).drew) := ((Below.refl _ w2).alloc (Nat.le_refl _) _).drew
      have R3 := rws_two (w := (w2.alloc (Obj.cells #[Value.slice ya yn yc, Value.slice ya yn yc] 25)).drew) (b := w2.heap.size) (s := ⟨ya, yn, yc, yl⟩) (t := ⟨ya, yn, yc, yl⟩) ⟨HY2.out.below A2 (Nat.le_refl _), by show yn ≤ _; omega⟩ ⟨HY2.out.below A2 (Nat.le_refl _), by show yn ≤ _; omega⟩ (hpD (hpS w2 _ _ rfl))
      have C2 := hide (mrows_any 2 _ 2 2 _ _ (by omega) R3 (by omega) (by omega) (by simp [sumL]; omega))
      have C3 : Hid (∀ w3 L3 a3 n3 c3, Below w2.heap.size w2 w3 → Rs w3 a3 n3 c3 [yl, yl] L3 → Calls Try.prog 14 #[.slice a3 n3 c3, .slice ya yn yc] w3 fun e w' => e = .returned (.bool true) ∧ Below w3.heap.size w3 w') := hide fun w3 L3 a3 n3 c3 hb rs => by
        have e := mrg_self rs.mrg hyr.out
        subst e
        have hn3 := rs.is.1
        exact req_any a3 ya n3 c3 yn yc L3 w3 rs.is (HY2.out.below hb (Nat.le_refl _)) (by omega)
      have HT := hide (fun W1 W2 (h1 : Below w2.heap.size w2 W1) (h2 : Below W1.heap.size W1 W2) => bmore h1 h2)
      have HA2 := hide A2
      obtain ⟨q0, q1⟩ := HK.out _ hk0
      clear q0 A2 R3
      go_wp2_with fail
      go_region_held_law (fun W => Below w2.heap.size w2 W ∧ W.cell? ⟨b1, off1 + i, none⟩ = some (.slice ya yn yc))
        (first | exact HK.out _ (by with_reducible assumption) | exact HK.out _ hk1 | exact HK.out _ hk0 | exact HK.out _ HA2.out | exact HK.out _ (Below.alloc hk0 hk0.size _) | exact HK.out _ (Below.alloc hk1 hk1.size _))
        (first
        | (go_at_call 10; refine C2.out.mono ?_; rintro e w3 ⟨L3, a3, n3, c3, rfl, rs3, hb3, ho3⟩; clear ho3; have k3 := HT.out _ _ HA2.out hb3)
        | (go_at_call 14; refine (C3.out w3 L3 a3 n3 c3 k3 rs3).mono ?_; rintro e w4 ⟨rfl, hb4⟩; have k4 := HT.out _ _ k3 hb4))
      have BL := hide k4
      clear C2 C3 HT HA2 hk0 hk1 rs3 hb3 hb4 k3 k4 q1 HK
      go_wp2_with fail
      have BB := hide (bmore B2.out BL.out)
      have RS4 : Hid (Rs w4 a2 n2 c2 (ls.drop i) L2) := hide ⟨RS2.out.mrg, RS2.out.is.below BL.out (Nat.le_refl _), RS2.out.cap⟩
      have HYI := hide (fun W (hW : Below w4.heap.size w4 W) => (And.intro ((bmore BL.out hW).cell (p := ⟨b1, off1 + i, none⟩) (World.block_lt_of_cell? w2 _ HC2.out) |>.trans HC2.out) (HY2.out.below (bmore BL.out hW) (Nat.le_refl _))))
      clear RS2 HC2 HY2 BL B2 hB
      go_loopw [6] (fun s6 wq => ∃ k : Nat, k ≤ n1 ∧ s6 = .int .i64 k ∧ Hid (Below w4.heap.size w4 wq)) (fun s6 _ => n1 - (intOf s6).toNat)
      case atStart => exact ⟨0, by omega, rfl, hide (Below.refl _ _)⟩
      case round =>
        obtain ⟨k, hk, rfl, hbk⟩ := hrel
        by_cases hlt : k < n1
        · obtain ⟨y2, hy2⟩ : ∃ y, ys[k]? = some y := ⟨_, List.getElem?_eq_getElem (by rw [hy1.out]; exact hlt)⟩
          have hRw := H0.out _ (bmore BB.out hbk.out)
          obtain ⟨b3, off3, ea, hcell⟩ := hRw.2.2.2 (by omega)
          cases ea
          have hck := hide (hcell k y2 hy2)
          have hyk := hide (hRw.2.2.1 y2 (List.mem_of_getElem? hy2))
          obtain ⟨ka, kn, kc, kl⟩ := y2
          simp only at hck hyk
          have hii := hide (HYI.out _ hbk.out)
          have p0 : ∀ p : Kp wr, p.W.cell? ⟨b1, off1 + i, none⟩ = some (.slice ya yn yc) := fun p => (p.h.cell (p := ⟨b1, off1 + i, none⟩) (World.block_lt_of_cell? wr _ hii.out.1)).trans hii.out.1
          have p1 : ∀ p : Kp wr, p.W.cell? ⟨b1, off1 + k, none⟩ = some (.slice ka kn kc) := fun p => (p.h.cell (p := ⟨b1, off1 + k, none⟩) (World.block_lt_of_cell? wr _ hck.out)).trans hck.out
          obtain ⟨o, ho⟩ : ∃ o, ovl yl kl = o := ⟨_, rfl⟩
          have ho2 : ovl kl yl = o := by rw [ovl_comm]; exact ho
          have c1 : Hid (∀ p : Kp wr, Calls Try.prog 23 #[.slice ya yn yc, .slice ka kn kc] p.W fun e w'' => e = .returned (.bool o) ∧ ∃ q : Kp wr, w'' = q.W) := hide fun p => kp_call (by rw [← ho]; exact overlap_any ya ka yn yc kn kc yl kl _ (hii.out.2.below p.h (Nat.le_refl _)) (hyk.out.1.below p.h (Nat.le_refl _)) (by omega) hyk.out.2)
          have c2 : Hid (∀ p : Kp wr, Calls Try.prog 23 #[.slice ka kn kc, .slice ya yn yc] p.W fun e w'' => e = .returned (.bool o) ∧ ∃ q : Kp wr, w'' = q.W) := hide fun p => kp_call (by rw [← ho2]; exact overlap_any ka ya kn kc yn yc kl yl _ (hyk.out.1.below p.h (Nat.le_refl _)) (hii.out.2.below p.h (Nat.le_refl _)) hyk.out.2 (by omega))
          have hne : Nonempty (Kp wr) := ⟨⟨_, Below.refl _ _⟩⟩
          have hoo : (o != o) = false := by simp
          clear hRw hcell hck hyk hii ho ho2 hy2
          go_wp2_with fail
          refine wp_region_kept (by kernel_rfl) (by kernel_rfl) ?_
          repeat (first
            | go_big_quiet_step (first | (go_at_call 23; with_reducible exact c1.out _) | (go_at_call 23; with_reducible exact c2.out _))
            | fail)
          refine wpQuiet_nil ?_
          intro w5 hw'
          have hb5 : Hid (Below wr.heap.size wr w5) := by
            obtain ⟨⟨w3', hb3⟩, hw''⟩ := hw'
            rw [hw'']; exact hide hb3
          have B5 := hide (bmore hbk.out hb5.out)
          clear hw' hne p0 p1 c1 c2
          go_wp2_with fail
          go_roundw
          case rel => exact ⟨k + 1, by omega, by go_num, B5⟩
          case measure => simp [intOf]; omega
        · obtain rfl : k = n1 := by omega
          have HR : Hid (Two2 w1 wr ls (.slice a2 n2 c2) (.int .i64 ((i : Int) - 1))) := hide ⟨i, (i : Int) - 1, L2, a2, n2, c2, rfl, rfl, by have := hyn.out; omega, rfl, ⟨RS4.out.mrg, RS4.out.is.below hbk.out (Nat.le_refl _), RS4.out.cap⟩, bmore BB.out hbk.out⟩
          go_wp2_with fail
          go_roundw
          case rel => exact HR
          case measure => simp [intOf]

end Go.Proofs.Ytkkcchklefcljaa.Clep
