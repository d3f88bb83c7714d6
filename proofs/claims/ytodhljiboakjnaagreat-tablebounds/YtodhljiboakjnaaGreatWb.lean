/- What the statement TableBounds does when called: true. No conditions. -/
import Derived.Test.YtodhljiboakjnaaGreatQl
import Derived.Test.YtodhljiboakjnaaGreatQn
import Derived.Test.YtodhljiboakjnaaGreatZa
import Derived.BigRegion
namespace Go.Proofs.YtodhljiboakjnaaGreat.Clep
open Go.RowKit
set_option linter.unusedVariables false

/-- An item written at a place. -/
def putO (w : World) (b o : Nat) (x : It) : World := ((((w.setCell ⟨b, o, none⟩ (.int .i64 x.S)).setCell ⟨b, o + 1, none⟩ (.int .i64 x.K)).setCell ⟨b, o + 2, none⟩ (.int .u64 x.T)).setCell ⟨b, o + 3, none⟩ (.int .u64 x.V)).setCell ⟨b, o + 4, none⟩ (.int .i64 x.X)
theorem putO_ch (w : World) (b o : Nat) (x : It) : Ch (fun k => k = b) w (putO w b o x) :=
  ((((Ch.set (P := fun k => k = b) w ⟨b, o, none⟩ _ rfl).trans (Ch.set _ ⟨b, o + 1, none⟩ _ rfl)).trans (Ch.set _ ⟨b, o + 2, none⟩ _ rfl)).trans (Ch.set _ ⟨b, o + 3, none⟩ _ rfl)).trans (Ch.set _ ⟨b, o + 4, none⟩ _ rfl)
theorem putO_eq (w : World) (b o : Nat) (x : It) : putO w b o x = w.setCells b o (cv x) := rfl
theorem putO_other (w : World) (b o p : Nat) (x : It) (h : p < o ∨ o + 5 ≤ p) : (putO w b o x).cell? ⟨b, p, none⟩ = w.cell? ⟨b, p, none⟩ := by
  rw [putO_eq]
  exact World.cell?_setCells_out b (cv x) o w ⟨b, p, none⟩ (fun _ _ => h)
theorem putO_self {w : World} {b o : Nat} {x y : It} (h : Vt w b o y) : Vt (putO w b o x) b o x := by
  obtain ⟨h0, h1, h2, h3, h4⟩ := h
  have hi := World.cell?_setCells_in b (cv x) o w (fun j hj => by
    have hj5 : j < 5 := hj
    match j, hj5 with
    | 0, _ => rw [Nat.add_zero, h0]; rfl
    | 1, _ => rw [h1]; rfl
    | 2, _ => rw [h2]; rfl
    | 3, _ => rw [h3]; rfl
    | 4, _ => rw [h4]; rfl)
  rw [putO_eq]
  exact ⟨hi 0 (by simp [cv]), hi 1 (by simp [cv]), hi 2 (by simp [cv]), hi 3 (by simp [cv]), hi 4 (by simp [cv])⟩
theorem putO_vt {w : World} {b o p : Nat} {x y : It} (h : Vt w b p y) (ho : p + 5 ≤ o ∨ o + 5 ≤ p) : Vt (putO w b o x) b p y := by
  obtain ⟨h0, h1, h2, h3, h4⟩ := h
  exact ⟨(putO_other w b o _ x (by omega)).trans h0, (putO_other w b o _ x (by omega)).trans h1, (putO_other w b o _ x (by omega)).trans h2, (putO_other w b o _ x (by omega)).trans h3, (putO_other w b o _ x (by omega)).trans h4⟩
theorem is_put {w : World} {b off n c i : Nat} {l : List It} {x : It} (h : Is w (some ⟨b, off, none⟩) n c l) (hi : i < n) (hx : x.wf) : Is (putO w b (off + i * 5) x) (some ⟨b, off, none⟩) n c (l.set i x) := by
  obtain ⟨b', off', e, hc⟩ := h.2.2.2 (by omega)
  cases e
  refine ⟨by rw [List.length_set]; exact h.1, h.2.1, fun y hy => ?_, fun _ => ⟨b, off, rfl, fun j y hj => ?_⟩⟩
  · rcases List.mem_or_eq_of_mem_set hy with q | q
    · exact h.2.2.1 y q
    · rw [q]; exact hx
  · rw [List.getElem?_set] at hj
    split at hj
    · rename_i e
      subst e
      split at hj
      · cases hj
        obtain ⟨z, hz⟩ : ∃ z, l[i]? = some z := ⟨_, List.getElem?_eq_getElem (by rw [h.1]; exact hi)⟩
        exact putO_self (hc i z hz)
      · cases hj
    · rename_i e
      exact putO_vt (hc j y hj) (by omega)
/-- Two that change places. -/
def swp (l : List It) (i k : Nat) (x y : It) : List It := (l.set i y).set k x
theorem swp_same {l : List It} {i : Nat} {x : It} (hx : l[i]? = some x) : swp l i i x x = l := by
  unfold swp
  rw [List.set_set]
  obtain ⟨h1, h2⟩ := List.getElem?_eq_some_iff.1 hx
  rw [← h2]; simp
theorem swp_not {l : List It} (hr : Rise l) {i k : Nat} {x y : It} (hx : l[i]? = some x) (hy : l[k]? = some y) (hne : i ≠ k) : ¬ Rise (swp l i k x y) := by
  intro h
  obtain ⟨i1, i2⟩ := List.getElem?_eq_some_iff.1 hx
  obtain ⟨k1, k2⟩ := List.getElem?_eq_some_iff.1 hy
  have hl : (swp l i k x y).length = l.length := by simp [swp]
  have e1 : (swp l i k x y)[i]? = some y := by unfold swp; rw [List.getElem?_set_ne (by omega), List.getElem?_set_self (by omega)]
  have e2 : (swp l i k x y)[k]? = some x := by unfold swp; rw [List.getElem?_set_self (by simp; omega)]
  obtain ⟨p1, p2⟩ := List.getElem?_eq_some_iff.1 e1
  obtain ⟨q1, q2⟩ := List.getElem?_eq_some_iff.1 e2
  rcases Nat.lt_or_gt_of_ne hne with hlt | hlt
  · have h1 := List.pairwise_iff_getElem.1 h i k p1 q1 hlt
    have h2 := List.pairwise_iff_getElem.1 hr i k i1 k1 hlt
    rw [p2, q2] at h1
    rw [i2, k2] at h2
    rw [less_iff] at h1 h2; omega
  · have h1 := List.pairwise_iff_getElem.1 h k i q1 p1 hlt
    have h2 := List.pairwise_iff_getElem.1 hr k i k1 i1 hlt
    rw [p2, q2] at h1
    rw [i2, k2] at h2
    rw [less_iff] at h1 h2; omega
theorem own_form {w : World} {B : Nat} {v : Value} {l : List It} (h : OwnI w B v l) (hw : ∀ x ∈ l, x.wf) (hne : 0 < l.length) :
    ∃ g cap, v = .slice (some ⟨g, 0, none⟩) l.length cap ∧ B ≤ g ∧ g < w.heap.size ∧ cap ≤ 9223372036854775807 ∧ Is w (some ⟨g, 0, none⟩) l.length cap l ∧ ∀ j, w.frozen? ⟨g, j, none⟩ = false := by
  have h0 := h
  obtain ⟨ao, cap, hv, hcap, his, hB⟩ := ownI_is h hw
  obtain ⟨hl, ⟨rfl, hn⟩ | ⟨g, cap', cur, rfl, hg, hh, hnc, hcm, hcs, hx⟩⟩ := h
  · omega
  · have e : some (⟨g, 0, none⟩ : Addr) = ao ∧ cap' = cap := by simpa using hv
    obtain ⟨rfl, rfl⟩ := e
    exact ⟨g, cap', rfl, hg, (Array.getElem?_eq_some_iff.1 hh).1, hcap, his, fun j => World.ownsRow.frozenAt h0 j⟩
set_option maxRecDepth 100000 in
set_option maxHeartbeats 4000000 in
theorem bounds_walk (n i k : Int) (w : World) :
    Calls Tryz.prog 8 #[.int .i64 n, .int .i64 i, .int .i64 k] w fun e w' => e = .returned (.bool true) ∧ Below w.heap.size w w' := by
  obtain ⟨h1, h2⟩ := and_mask n 15 (by decide)
  obtain ⟨x, hx⟩ := Int.eq_ofNat_of_zero_le h1
  have hx' : bits BinOp.and IntKind.i64 n 15 = (x : Int) := hx
  have hx15 : x ≤ 15 := by rw [hx] at h2; omega
  clear h1 h2 hx
  obtain ⟨N, hN⟩ : ∃ N : Nat, (x : Int) + 1992 = (N : Int) := ⟨x + 1992, by omega⟩
  have hNm : N ≤ 2007 ∧ 1992 ≤ N := by omega
  have hMo := hide (more_any none 0 0 [] N w (is_nil _) (by omega) (by omega))
  have HWF := hide (more_wf (l := []) (by simp) (n := N) (by omega))
  have HRI := hide (more_rise [] N)
  have HOK := hide (fun h : N ≤ 2000 => more_tok (l := []) (by simp) h)
  have HLN := hide (more_len [] N)
  generalize moreL [] N = q at *
  clear hx15
  go_enter Tryz.func8, Tryz.ntmps8
  go_wp2_with fail
  refine hMo.out.mono ?_
  rintro e w1 ⟨aq, cq, rfl, hIq, hcq, hb1, -⟩
  have HIq := hide hIq
  have B1 := hide hb1
  clear hMo hIq hb1 hx' hN
  by_cases hgt : 2000 < N
  · have hMk := make_bad aq N cq q w1 HIq.out (by omega) (by rw [tme_long (by rw [HLN.out]; exact hgt)]; decide)
    rw [tme_long (by rw [HLN.out]; exact hgt)] at hMk
    have HMk := hide hMk
    clear hMk
    go_wp2_with (first | (go_at_call 11; refine HMk.out.mono ?_; rintro e w2 ⟨rfl, hb2⟩) | (go_at_call 9; refine (qawake_any _).mono ?_; rintro e w3 ⟨rfl, hb3⟩))
    go_ret
    exact ⟨rfl, bmore (bmore B1.out hb2) hb3⟩
  · have hle : N ≤ 2000 := by omega
    have HT := hide (HOK.out hle)
    have hMk := hide (make_ok aq N cq q w1 HIq.out HT.out hcq)
    go_wp2_with fail
    refine hMk.out.mono ?_
    rintro e w2 ⟨v2, rfl, ho2, hb2⟩
    obtain ⟨a2, c2, rfl, -, hbs2, -⟩ := own_at0 ho2 (tb_range HT.out)
    have hL2 := (tb_len HT.out).2
    have hRd := tread_any a2 (tb q).length c2 (tb q) w2 hbs2 (by omega)
    rw [isT_tb HT.out, bg_tb HT.out] at hRd
    have HRd := hide hRd
    have B2 := hide (bmore B1.out hb2)
    have HI2 := hide (HIq.out.below hb2 (Nat.le_refl _))
    generalize (tb q).length = L at *
    clear hMk ho2 hbs2 hb2 hRd hL2
    go_wp2_with fail
    refine HRd.out.mono ?_
    rintro e w3 ⟨hb3, ⟨hno, -⟩ | ⟨-, M, rfl, ht3, -⟩⟩
    · cases hno
    have hLn := tlen_any w3 M 0 _ q ht3
    rw [HLN.out] at hLn
    have HLn := hide hLn
    have B3 := hide (bmore B2.out hb3)
    have HI3 := hide (HI2.out.below hb3 (Nat.le_refl _))
    clear HRd hb3 ht3 hLn
    go_wp2_with fail
    refine HLn.out.mono ?_
    rintro e w3' ⟨rfl, rfl⟩
    clear HLn
    have A4 := hide ((Below.refl _ w3').alloc (Nat.le_refl _) (Obj.cells #[] 25))
    have O4 := hide (ownI_empty (w := w3'.alloc (Obj.cells #[] 25)) (B := w3'.heap.size) (g := w3'.heap.size) (hpS w3' _ _ rfl) (Nat.le_refl _))
    have I4 := hide (HI3.out.below A4.out (Nat.le_refl _))
    go_wp2_with (first
      | (at_builtin; refine wpList_append_items rfl _ _ rfl w3'.heap.size _ [] rfl O4.out aq N cq q rfl I4.out ?_ A4.out.size ?_)
      | fail)
    · simp; omega
    intro v5 w5 ho5 hg5 hbk5
    obtain ⟨g, c5, rfl, hg1, hg2, hc5, hI5, hfz⟩ := own_form ho5 HWF.out (by rw [HLN.out]; omega)
    rw [HLN.out] at hI5
    rw [HLN.out]
    have B5 : Hid (Below w3'.heap.size w3' w5) := hide (A4.out.grown hg5 A4.out.size hbk5)
    have HI5 := hide hI5
    have HFZ := hide hfz
    have HG := hide hg1
    clear ho5 hg5 hbk5 hI5 hfz hg1 hg2
    obtain ⟨h1, h2⟩ := and_mask i 65535 (by decide)
    obtain ⟨u, hu⟩ := Int.eq_ofNat_of_zero_le h1
    have hu' : bits BinOp.and IntKind.i64 i 65535 = (u : Int) := hu
    have hu5 : u ≤ 65535 := by rw [hu] at h2; omega
    clear h1 h2 hu
    obtain ⟨h1, h2⟩ := and_mask k 65535 (by decide)
    obtain ⟨v, hv⟩ := Int.eq_ofNat_of_zero_le h1
    have hv' : bits BinOp.and IntKind.i64 k 65535 = (v : Int) := hv
    have hv5 : v ≤ 65535 := by rw [hv] at h2; omega
    clear h1 h2 hv
    have hN0 : (N : Int) ≠ 0 := by omega
    have hN1 : (0 : Int) < (N : Int) := by omega
    obtain ⟨I, hI⟩ : ∃ I : Nat, u % N = I := ⟨_, rfl⟩
    obtain ⟨K, hK⟩ : ∃ K : Nat, v % N = K := ⟨_, rfl⟩
    have hI1 : I < N := by rw [← hI]; exact Nat.mod_lt _ (by omega)
    have hK1 : K < N := by rw [← hK]; exact Nat.mod_lt _ (by omega)
    have hIe : (u : Int) % (N : Int) = (I : Int) := by rw [← hI]; exact (Int.natCast_emod u N).symm
    have hKe : (v : Int) % (N : Int) = (K : Int) := by rw [← hK]; exact (Int.natCast_emod v N).symm
    have hIt : (u : Int).tmod (N : Int) = (I : Int) := by rw [Int.tmod_eq_emod_of_nonneg (by omega)]; exact hIe
    have hKt : (v : Int).tmod (N : Int) = (K : Int) := by rw [Int.tmod_eq_emod_of_nonneg (by omega)]; exact hKe
    clear hI hK
    go_wp2_with fail
    go_region
    have B6 : Hid (Below w.heap.size w w5.drew) := hide (B3.out.trans (B5.out.drew.mono B3.out.size))
    have I6 : Hid (Is w5.drew (some ⟨g, 0, none⟩) N c5 q) := hide (HI5.out.below (Below.refl _ _).drew (Nat.le_refl _))
    have FZ : ∀ j, w5.drew.frozen? ⟨g, j, none⟩ = false := fun j => HFZ.out j
    generalize w5.drew = w6 at *
    obtain ⟨b9, o9, e9, hcell⟩ := I6.out.2.2.2 (by omega)
    cases e9
    obtain ⟨x1, hx1⟩ : ∃ x1, q[I]? = some x1 := ⟨_, List.getElem?_eq_getElem (by rw [HLN.out]; exact hI1)⟩
    obtain ⟨x2, hx2⟩ : ∃ x2, q[K]? = some x2 := ⟨_, List.getElem?_eq_getElem (by rw [HLN.out]; exact hK1)⟩
    have hv1 := hcell I x1 hx1
    have hv2 := hcell K x2 hx2
    have HX1 := hide hx1
    have HX2 := hide hx2
    have W1 := hide (HWF.out x1 (List.mem_of_getElem? hx1))
    have W2 := hide (HWF.out x2 (List.mem_of_getElem? hx2))
    obtain ⟨S1, K1, T1, V1, Y1⟩ := x1
    obtain ⟨S2, K2, T2, V2, Y2⟩ := x2
    unfold Vt Vi at hv1 hv2
    simp only [Nat.zero_add] at hv1 hv2
    obtain ⟨p0, p1, p2, p3, p4⟩ := hv1
    obtain ⟨q0, q1, q2, q3, q4⟩ := hv2
    have hIi : (I : Int) < (N : Int) := by omega
    have hKi : (K : Int) < (N : Int) := by omega
    clear hcell hx1 hx2 hIe hKe hIt hKt hu' hv'
    by_cases hIK : I = K
    · subst hIK
      have e9 : (⟨S1, K1, T1, V1, Y1⟩ : It) = ⟨S2, K2, T2, V2, Y2⟩ := by
        have := HX1.out; rw [HX2.out] at this; exact (Option.some.inj this).symm
      injection e9 with e1 e2 e3 e4 e5
      subst e1; subst e2; subst e3; subst e4; subst e5
      clear q0 q1 q2 q3 q4 HX2 W2
      have HL7 : Hid (Is (putO (putO w6 g (I * 5) ⟨S1, K1, T1, V1, Y1⟩) g (I * 5) ⟨S1, K1, T1, V1, Y1⟩) (some ⟨g, 0, none⟩) N c5 (swp q I I ⟨S1, K1, T1, V1, Y1⟩ ⟨S1, K1, T1, V1, Y1⟩)) := hide (by
        have h1 := is_put I6.out hI1 W1.out
        rw [Nat.zero_add] at h1
        have h2 := is_put h1 hI1 W1.out
        rw [Nat.zero_add] at h2
        exact h2)
      have HC7 := hide ((putO_ch w6 g (I * 5) ⟨S1, K1, T1, V1, Y1⟩).trans (putO_ch _ g (I * 5) ⟨S1, K1, T1, V1, Y1⟩))
      have HGW : Hid (w.heap.size ≤ g) := hide (Nat.le_trans B3.out.size HG.out)
      go_wp2_with fail
      go_region
      generalize hW : ((((((((((w6.setCell ⟨g, I * 5, none⟩ (.int .i64 S1)).setCell ⟨g, I * 5 + 1, none⟩ (.int .i64 K1)).setCell ⟨g, I * 5 + 2, none⟩ (.int .u64 T1)).setCell ⟨g, I * 5 + 3, none⟩ (.int .u64 V1)).setCell ⟨g, I * 5 + 4, none⟩ (.int .i64 Y1)).setCell ⟨g, I * 5, none⟩ (.int .i64 S1)).setCell ⟨g, I * 5 + 1, none⟩ (.int .i64 K1)).setCell ⟨g, I * 5 + 2, none⟩ (.int .u64 T1)).setCell ⟨g, I * 5 + 3, none⟩ (.int .u64 V1)).setCell ⟨g, I * 5 + 4, none⟩ (.int .i64 Y1)).drew = w7
      have eW : (putO (putO w6 g (I * 5) ⟨S1, K1, T1, V1, Y1⟩) g (I * 5) ⟨S1, K1, T1, V1, Y1⟩).drew = w7 := hW
      have I7 : Hid (Is w7 (some ⟨g, 0, none⟩) N c5 (swp q I I ⟨S1, K1, T1, V1, Y1⟩ ⟨S1, K1, T1, V1, Y1⟩)) := hide (by rw [← eW]; exact HL7.out.below (Below.refl _ _).drew (Nat.le_refl _))
      have B7 : Hid (Below w.heap.size w w7) := hide (by rw [← eW]; exact (Clep.Below.ch B6.out HC7.out B6.out.size (fun i hi => by rw [hi]; exact HGW.out)).drew)
      clear eW hW HL7 HC7 p0 p1 p2 p3 p4 FZ
      have hI : Hid (Is w7 (some ⟨g, 0, none⟩) N c5 q) := hide (by
        have h1 := I7.out
        rw [swp_same HX1.out] at h1
        exact h1)
      have hMk := hide (make_ok _ N c5 q w7 hI.out HT.out hc5)
      go_wp2_with fail
      refine hMk.out.mono ?_
      rintro e w8 ⟨v8, rfl, -, hb8⟩
      have B8 := hide (bmore B7.out hb8)
      clear hMk hb8
      go_wp2_with (first | (go_at_call 9; refine (qawake_any _).mono ?_; rintro e w9 ⟨rfl, hb9⟩))
      go_ret
      exact ⟨rfl, bmore B8.out hb9⟩
    · have d0 : I * 5 ≠ K * 5 := by omega
      have HL7 : Hid (Is (putO (putO w6 g (I * 5) ⟨S2, K2, T2, V2, Y2⟩) g (K * 5) ⟨S1, K1, T1, V1, Y1⟩) (some ⟨g, 0, none⟩) N c5 (swp q I K ⟨S1, K1, T1, V1, Y1⟩ ⟨S2, K2, T2, V2, Y2⟩)) := hide (by
        have h1 := is_put I6.out hI1 W2.out
        rw [Nat.zero_add] at h1
        have h2 := is_put h1 hK1 W1.out
        rw [Nat.zero_add] at h2
        exact h2)
      have HC7 := hide ((putO_ch w6 g (I * 5) ⟨S2, K2, T2, V2, Y2⟩).trans (putO_ch _ g (K * 5) ⟨S1, K1, T1, V1, Y1⟩))
      have HGW : Hid (w.heap.size ≤ g) := hide (Nat.le_trans B3.out.size HG.out)
      go_wp2_with fail
      go_region
      generalize hW : ((((((((((w6.setCell ⟨g, I * 5, none⟩ (.int .i64 S2)).setCell ⟨g, I * 5 + 1, none⟩ (.int .i64 K2)).setCell ⟨g, I * 5 + 2, none⟩ (.int .u64 T2)).setCell ⟨g, I * 5 + 3, none⟩ (.int .u64 V2)).setCell ⟨g, I * 5 + 4, none⟩ (.int .i64 Y2)).setCell ⟨g, K * 5, none⟩ (.int .i64 S1)).setCell ⟨g, K * 5 + 1, none⟩ (.int .i64 K1)).setCell ⟨g, K * 5 + 2, none⟩ (.int .u64 T1)).setCell ⟨g, K * 5 + 3, none⟩ (.int .u64 V1)).setCell ⟨g, K * 5 + 4, none⟩ (.int .i64 Y1)).drew = w7
      have eW : (putO (putO w6 g (I * 5) ⟨S2, K2, T2, V2, Y2⟩) g (K * 5) ⟨S1, K1, T1, V1, Y1⟩).drew = w7 := hW
      have I7 : Hid (Is w7 (some ⟨g, 0, none⟩) N c5 (swp q I K ⟨S1, K1, T1, V1, Y1⟩ ⟨S2, K2, T2, V2, Y2⟩)) := hide (by rw [← eW]; exact HL7.out.below (Below.refl _ _).drew (Nat.le_refl _))
      have B7 : Hid (Below w.heap.size w w7) := hide (by rw [← eW]; exact (Clep.Below.ch B6.out HC7.out B6.out.size (fun i hi => by rw [hi]; exact HGW.out)).drew)
      clear eW hW HL7 HC7 p0 p1 p2 p3 p4 q0 q1 q2 q3 q4 FZ
      have hm : tme (swp q I K ⟨S1, K1, T1, V1, Y1⟩ ⟨S2, K2, T2, V2, Y2⟩) = 1 := tme_not (by simp [swp]; rw [HLN.out]; exact hle) (risB_false (fun h => swp_not HRI.out HX1.out HX2.out hIK h.1))
      have hMk := make_bad _ N c5 _ w7 I7.out (by omega) (by rw [hm]; decide)
      rw [hm] at hMk
      have HMk := hide hMk
      have heq : ((I : Int) == (K : Int)) = false := by simp; omega
      clear hIK hMk
      go_wp2_with fail
      refine HMk.out.mono ?_
      rintro e w8 ⟨rfl, hb8⟩
      have B8 := hide (bmore B7.out hb8)
      clear HMk hb8
      go_wp2_with (first | (go_at_call 9; refine (qawake_any _).mono ?_; rintro e w9 ⟨rfl, hb9⟩))
      go_ret
      exact ⟨rfl, bmore B8.out hb9⟩

end Go.Proofs.YtodhljiboakjnaaGreat.Clep
