/- LogOpens, walked: it answers true. For any name, any bytes. -/
import Derived.Test.YtdldpdllhnpdaabWf
import Derived.Test.YtdldpdllhnpdaabLe
import Derived.Test.YtdldpdllhnpdaabLf
import Derived.Test.YtdldpdllhnpdaabLd
namespace Go.Proofs.Ytdldpdllhnpdaab.Clep
open Go.RowKit Go.Maps
set_option linter.unusedVariables false

theorem sp_end : ∀ (f : Nat) (X : List Int), (sp f X).2.1 ≤ X.length
  | 0, X => by simp [sp]
  | f + 1, X => by
    rw [sp_succ]
    split
    · simp
    · split
      · rename_i hc
        have h := sp_end f (X.drop ((ln X).toNat + 12))
        have hk := ce_ok X hc
        rw [List.length_drop] at h
        show _ + _ + _ ≤ _
        omega
      · simp
theorem rp_end (X : List Int) : (rp X).2.1 ≤ X.length := by
  unfold rp
  split
  · exact sp_end _ X
  · simp
theorem ak_ex (q c : Nat) (X : List Int) : createS (ak q c X) nm1 = (12, ak q (c + 1) X) := by kernel_rfl
theorem ak_read (q c : Nat) (X : List Int) : readS (ak q c X) nm1 = (0, X) := by kernel_rfl
theorem key_nm {s : ByteArray} (h : nk1 = key s) : s = nm1 := by
  unfold nk1 key at h
  injection h with h
  cases s
  rename_i d
  unfold nm1
  congr
  simp only at h
  rw [← Array.toArray_toList (xs := d), ← h]
theorem ak_other (q c : Nat) (X : List Int) (s : ByteArray) (h : s ≠ nm1) : ∃ E, readS (ak q c X) s = (E, []) ∧ E ≠ 0 := by
  have hl : lk (DataW.map [(nk1, i64L 1)]) s = 0 := by
    unfold lk
    rw [WideAt.atKey_none (i64L 0) (fun p hp e => by
      rw [List.mem_singleton.1 hp] at e
      exact h (key_nm e))]
    rfl
  have hf : fileAt (ak q c X).files (lk (ak q c X).names s) = none := by
    show fileAt [⟨1, X, 0⟩] (lk (DataW.map [(nk1, i64L 1)]) s) = none
    rw [hl]; rfl
  unfold readS
  rw [hf]
  by_cases ho : okName s = false
  · rw [if_pos ho]; exact ⟨10, rfl, by decide⟩
  · rw [if_neg ho, if_neg (by show ¬ (false = true); simp)]; exact ⟨11, rfl, by decide⟩
theorem ne_name {s : ByteArray} (h : s ≠ nm1) : (s.toList == nm1.toList) = false := by
  rw [Bool.eq_false_iff]
  intro e
  apply h
  have := eq_of_beq e
  rw [ByteArray.toList_eq, ByteArray.toList_eq] at this
  cases s; unfold nm1 at *
  congr
  exact Array.toList_inj.1 this
theorem ne_name2 {s : ByteArray} (h : s ≠ nm1) : (s.toList == [108, 111, 103, 46, 49]) = false := by
  have e := ne_name h
  rw [show nm1.toList = [108, 111, 103, 46, 49] by rw [ByteArray.toList_eq]; rfl] at e
  exact e
/-- Open's error, whatever it is. -/
theorem lopen_code {F : Nat → Prop} {R : Nat} {S : St} {w : World} (s : ByteArray) {E : Nat} {zs : List Int} (e : readS S s = (E, zs)) (h : Held F w R S) (hs : s.size ≤ 70368744177664) (hl : zs.length ≤ 1000000) (hr : ByteL zs) :
    Calls Try.prog 8 #[.pointer (some ⟨R, 0, none⟩), .string s] w fun e w' => ∃ v0 v1 v2, e = .returned (.tuple #[v0, v1, v2, .int .i64 (if E = 0 then (rp zs).2.2 else (E : Int))]) ∧ Held F w' R S ∧ Below w.heap.size w w' := by
  by_cases hE : E = 0
  · subst hE
    rw [if_pos rfl]
    by_cases hc : (rp zs).2.2 = 0
    · refine (lopen_ok s e h hs hl hr hc zs.length _ rfl rfl _ rfl).mono ?_
      rintro e w' ⟨L, v, ys, rfl, h1, h2, h3, h4, h5, h6⟩
      rw [hc]
      exact ⟨_, _, _, rfl, h2.held.less (fun i hi => .inl hi), h6⟩
    · refine (lopen_corrupt s e h hs hl hr hc).mono ?_
      rintro e w' ⟨rfl, h1, h2⟩
      exact ⟨_, _, _, rfl, h1, h2⟩
  · rw [if_neg hE]
    refine (lopen_bad s e h hs hE).mono ?_
    rintro e w' ⟨rfl, h1, h2⟩
    exact ⟨_, _, _, rfl, h1, h2⟩
def nm2 : ByteArray := ⟨#[108, 111, 103, 46, 50]⟩

set_option maxRecDepth 10000 in
set_option maxHeartbeats 8000000 in
theorem opens_walk (s : ByteArray) (ab : Option Addr) (bn bc : Nat) (bs0 : List Int) (w : World) (hsz : s.size ≤ 9223372036854775807) (hb0 : Bs w ab bn bc bs0) (hbn : bn ≤ 9223372036854775807) :
    Calls Try.prog 3 #[.string s, .slice ab bn bc] w fun e w' => e = .returned (.bool true) ∧ Below w.heap.size w w' := by
  have NW := hide (new_h 1048576 w (by omega) 1048576 rfl)
  have HBB := hide (fun W (hW : Below w.heap.size w W) => hb0.below hW (Nat.le_refl _))
  have hbl := hide hb0.1
  have hrg := hide (bs_range hb0)
  have hblk : Hid (0 < bn → ∀ b off, ab = some ⟨b, off, none⟩ → b < w.heap.size) := hide fun h0 b off e => by
    obtain ⟨b', off', e', hc⟩ := hb0.2.2.2 h0
    rw [e] at e'
    injection e' with e'
    injection e' with e1 e2
    subst e1
    exact World.block_lt_of_cell? w _ (hc 0 h0)
  clear hb0
  go_enter Try.func3, Try.ntmps3
  go_wp2_with fail
  refine NW.out.mono ?_
  rintro e w1 ⟨R, rfl, H1, B1⟩
  have HH1 := hide H1
  have HB1 := hide B1
  clear H1 B1 NW
  by_cases hlong : 60 < s.size ∨ 3000 < bn
  · have AW := hide (lawake_any w1)
    rcases (show 60 < s.size ∨ (¬ (60 < s.size) ∧ 3000 < bn) by omega) with hx | ⟨hx, hy⟩
    · clear hlong
      go_wp2_with fail
      refine AW.out.mono ?_
      rintro e w2 ⟨rfl, hb⟩
      have HB2 := hide (bmore HB1.out hb)
      clear hb AW
      go_wp2
      go_ret
      exact ⟨rfl, HB2.out⟩
    · have hy' : (3000 : Int) < (bn : Int) := by omega
      clear hlong
      go_wp2_with fail
      refine AW.out.mono ?_
      rintro e w2 ⟨rfl, hb⟩
      have HB2 := hide (bmore HB1.out hb)
      clear hb AW
      go_wp2
      go_ret
      exact ⟨rfl, HB2.out⟩
  · have hs60 : s.size ≤ 60 := by omega
    have hb3 : bn ≤ 3000 := by omega
    have hb3' : ¬ ((3000 : Int) < (bn : Int)) := by omega
    have hx : ¬ (60 < s.size) := by omega
    clear hlong
    go_wp2_with fail
    refine (create_h nm1 (ak_new 1048576) HH1.out (by decide) (by decide)).mono ?_
    rintro e w2 ⟨rfl, H2, S2⟩
    have HH2 := hide H2
    have HB2 := hide (HB1.out.trans (S2.below (fun i hi => hi)))
    clear H2 S2 HH1 HB1
    have hapE : appendS (ak 1048576 1 []) nm1 bs0 = (0, ak 1048576 2 bs0) := by
      have := ak_app 1048576 1 [] bs0 (by simp [hbl.out]; omega) (by simp [hbl.out]; omega)
      simpa using this
    have AP := hide (append_h0 nm1 ab bn bc bs0 hapE HH2.out (by show 1 < 1099511627776; omega) (by decide) (HBB.out _ HB2.out) (by omega) hblk.out)
    clear hapE
    go_wp2_with fail
    refine AP.out.mono ?_
    rintro e w3 ⟨rfl, H3, S3⟩
    have HH3 := hide H3
    have HB3 := hide (HB2.out.trans (S3.below (fun i hi => hi)))
    clear H3 S3 HH2 HB2 AP
    go_wp2_with fail
    refine (lopen_nil nm1 w3).mono ?_
    rintro e w3' ⟨rfl, rfl⟩
    go_wp2_with fail
    refine (lnew_nil nm2 w3').mono ?_
    rintro e w3 ⟨rfl, rfl⟩
    have LN := hide (lnew_any nm1 (ak_ex 1048576 2 bs0) HH3.out (by show 2 < 1099511627776; omega) (by decide))
    go_wp2_with fail
    refine LN.out.mono ?_
    rintro e w4 ⟨S4, ⟨h0, -⟩ | ⟨-, rfl, H4⟩⟩
    · cases h0
    have HH4 := hide H4
    have HB4 := hide (HB3.out.trans (S4.below (fun i hi => hi)))
    clear H4 S4 HH3 HB3 LN
    have hE1 := rp_end bs0
    have RDN := hide (ak_read 1048576 3 bs0)
    have hlen : bs0.length ≤ 1000000 := by rw [hbl.out]; omega
    rw [hbl.out] at hE1
    by_cases hc : (rp bs0).2.2 = 0
    · obtain ⟨E1, hE1e⟩ : ∃ E1, (rp bs0).2.1 = E1 := ⟨_, rfl⟩
      obtain ⟨t, ht⟩ : ∃ t, decide (E1 < bn) = t := ⟨_, rfl⟩
      rw [hE1e] at hE1
      have OP := hide (lopen_ok nm1 RDN.out HH4.out (by decide) hlen hrg.out hc bn E1 hbl.out hE1e t ht)
      have HC := hide hc
      have HE1 := hide hE1e
      by_cases hEb : E1 = bn
      · have hEi : (E1 : Int) = (bn : Int) := by omega
        obtain rfl : t = false := by rw [← ht]; exact decide_eq_false (by omega)
        clear ht
        clear hc hE1e
        go_wp2_with fail
        refine OP.out.mono ?_
        rintro e w5 ⟨L, v5, ys5, rfl, hL, hlo, hor5, hym5, -, hb5⟩
        have HB5 := hide (bmore HB4.out hb5)
        have HH5 := hide (hlo.held.less (F' := fun i => i < w.heap.size) (fun i hi => .inl hi))
        obtain ⟨a5, c5, rfl, hrw5, hcm5⟩ := hor5.rws
        obtain ⟨yy5, hyy⟩ : ∃ yy5, yy5 = ys5 := ⟨_, rfl⟩
        rw [← hyy] at hrw5 hym5 ⊢
        have hn5 := Nat.le_trans hrw5.2.1.1 hcm5
        have HYM5 := hide hym5
        obtain ⟨n5, hn5e⟩ : ∃ n5, yy5.length = n5 := ⟨_, rfl⟩
        rw [hn5e] at hrw5 hn5 ⊢
        have HRW5 := hide hrw5
        clear hlo hor5 hym5 hb5 hrw5 OP HB4 HH4 hyy hn5e
        have RP := hide (rreplay_any bs0 w5 hlen hrg.out)
        have hcv := conv_bs (HBB.out _ HB5.out)
        generalize strOfNums bs0 = SB at *
        go_wp2_with fail
        refine RP.out.mono ?_
        rintro e w6 ⟨v6, ys6, rfl, hor6, hym6, hb6, -⟩
        rw [HC.out, HE1.out]
        obtain ⟨a6, c6, rfl, hrw6, hcm6⟩ := hor6.rws
        have HB6 := hide (bmore HB5.out hb6)
        have HH6 := hide (HH5.out.same hb6).1
        have SM := hide (lsame_any a5 a6 n5 c5 ys6.length c6 yy5 ys6 w6 (HRW5.out.below hb6 (Nat.le_refl _)) hrw6 hn5 (Nat.le_trans hrw6.2.1.1 hcm6))
        rw [show eqLL (yy5.map Sl.l) (ys6.map Sl.l) = true by rw [HYM5.out, hym6]; exact eqLL_refl _] at SM
        clear hor6 hym6 hb6 hrw6 RP hcv HB5 HH5
        go_wp2_with fail
        refine SM.out.mono ?_
        rintro e w7 ⟨rfl, hb7⟩
        have HB7 := hide (bmore HB6.out hb7)
        have HH7 := hide (HH6.out.same hb7).1
        clear hb7 SM HB6 HH6
        by_cases hnm : s = nm1
        · subst hnm
          have OC := hide (lopen_code nm1 RDN.out HH7.out (by decide) hlen hrg.out)
          go_wp2_with fail
          refine OC.out.mono ?_
          rintro e w8 ⟨v0, v1, v2, rfl, H8, hb8⟩
          have HB8 := hide (bmore HB7.out hb8)
          have RD := hide (read_h nm1 RDN.out H8 (by decide))
          generalize (if (0 : Nat) = 0 then (rp bs0).2.2 else ((0 : Nat) : Int)) = J at *
          clear H8 hb8 OC HB7 HH7
          go_wp2_with fail
          refine RD.out.mono ?_
          rintro e w9 ⟨ao9, cap9, rfl, -, -, hb9⟩
          have HB9 := hide (bmore HB8.out hb9)
          have AW := hide (lawake_any w9)
          have hnn : (nm1.toList == nm1.toList) = true := by simp
          generalize bs0.length = BL at *
          clear hb9 RD HB8
          unfold nm1 at hnn ⊢
          go_wp2_with fail
          refine AW.out.mono ?_
          rintro e w10 ⟨rfl, hb⟩
          have HBE := hide (bmore HB9.out hb)
          clear hb AW
          go_wp2
          go_ret
          exact ⟨rfl, HBE.out⟩
        · obtain ⟨E, hrd, hE⟩ := ak_other 1048576 3 bs0 s hnm
          have OC := hide (lopen_bad s hrd HH7.out (by omega) hE)
          have hne : (s.toList == (⟨#[108, 111, 103, 46, 49]⟩ : ByteArray).toList) = false := ne_name hnm
          have hne2 : (s.toList == [108, 111, 103, 46, 49]) = false := ne_name2 hnm
          have hne3 : ¬ (s.toList = [108, 111, 103, 46, 49]) := fun e => by rw [e] at hne2; simp at hne2
          have HRD := hide hrd
          have hEi : ¬ ((E : Int) = 0) := by omega
          have hEn : ((E : Int) != 0) = true := by simpa using hEi
          clear hrd
          go_wp2_with fail
          refine OC.out.mono ?_
          rintro e w8 ⟨rfl, H8, hb8⟩
          have HB8 := hide (bmore HB7.out hb8)
          have RD := hide (read_h s HRD.out H8 (by omega))
          clear H8 hb8 OC HB7 HH7
          go_wp2_with fail
          refine RD.out.mono ?_
          rintro e w9 ⟨ao9, cap9, rfl, -, -, hb9⟩
          have HB9 := hide (bmore HB8.out hb9)
          have AW := hide (lawake_any w9)
          clear hb9 RD HB8
          go_wp2_with fail
          refine AW.out.mono ?_
          rintro e w10 ⟨rfl, hb⟩
          have HBE := hide (bmore HB9.out hb)
          clear hb AW
          go_wp2
          go_ret
          exact ⟨rfl, HBE.out⟩
      · have hEi : ¬ ((E1 : Int) = (bn : Int)) := by omega
        obtain rfl : t = true := by rw [← ht]; exact decide_eq_true (by omega)
        clear ht
        clear hc hE1e
        go_wp2_with fail
        refine OP.out.mono ?_
        rintro e w5 ⟨L, v5, ys5, rfl, hL, hlo, hor5, hym5, -, hb5⟩
        have HB5 := hide (bmore HB4.out hb5)
        have HH5 := hide (hlo.held.less (F' := fun i => i < w.heap.size) (fun i hi => .inl hi))
        obtain ⟨a5, c5, rfl, hrw5, hcm5⟩ := hor5.rws
        obtain ⟨yy5, hyy⟩ : ∃ yy5, yy5 = ys5 := ⟨_, rfl⟩
        rw [← hyy] at hrw5 hym5 ⊢
        have hn5 := Nat.le_trans hrw5.2.1.1 hcm5
        have HYM5 := hide hym5
        obtain ⟨n5, hn5e⟩ : ∃ n5, yy5.length = n5 := ⟨_, rfl⟩
        rw [hn5e] at hrw5 hn5 ⊢
        have HRW5 := hide hrw5
        clear hlo hor5 hym5 hb5 hrw5 OP HB4 HH4 hyy hn5e
        have RP := hide (rreplay_any bs0 w5 hlen hrg.out)
        have hcv := conv_bs (HBB.out _ HB5.out)
        generalize strOfNums bs0 = SB at *
        go_wp2_with fail
        refine RP.out.mono ?_
        rintro e w6 ⟨v6, ys6, rfl, hor6, hym6, hb6, -⟩
        rw [HC.out, HE1.out]
        obtain ⟨a6, c6, rfl, hrw6, hcm6⟩ := hor6.rws
        have HB6 := hide (bmore HB5.out hb6)
        have HH6 := hide (HH5.out.same hb6).1
        have SM := hide (lsame_any a5 a6 n5 c5 ys6.length c6 yy5 ys6 w6 (HRW5.out.below hb6 (Nat.le_refl _)) hrw6 hn5 (Nat.le_trans hrw6.2.1.1 hcm6))
        rw [show eqLL (yy5.map Sl.l) (ys6.map Sl.l) = true by rw [HYM5.out, hym6]; exact eqLL_refl _] at SM
        clear hor6 hym6 hb6 hrw6 RP hcv HB5 HH5
        go_wp2_with fail
        refine SM.out.mono ?_
        rintro e w7 ⟨rfl, hb7⟩
        have HB7 := hide (bmore HB6.out hb7)
        have HH7 := hide (HH6.out.same hb7).1
        clear hb7 SM HB6 HH6
        by_cases hnm : s = nm1
        · subst hnm
          have OC := hide (lopen_code nm1 RDN.out HH7.out (by decide) hlen hrg.out)
          go_wp2_with fail
          refine OC.out.mono ?_
          rintro e w8 ⟨v0, v1, v2, rfl, H8, hb8⟩
          have HB8 := hide (bmore HB7.out hb8)
          have RD := hide (read_h nm1 RDN.out H8 (by decide))
          generalize (if (0 : Nat) = 0 then (rp bs0).2.2 else ((0 : Nat) : Int)) = J at *
          clear H8 hb8 OC HB7 HH7
          go_wp2_with fail
          refine RD.out.mono ?_
          rintro e w9 ⟨ao9, cap9, rfl, -, -, hb9⟩
          have HB9 := hide (bmore HB8.out hb9)
          have AW := hide (lawake_any w9)
          have hnn : (nm1.toList == nm1.toList) = true := by simp
          generalize bs0.length = BL at *
          clear hb9 RD HB8
          unfold nm1 at hnn ⊢
          go_wp2_with fail
          refine AW.out.mono ?_
          rintro e w10 ⟨rfl, hb⟩
          have HBE := hide (bmore HB9.out hb)
          clear hb AW
          go_wp2
          go_ret
          exact ⟨rfl, HBE.out⟩
        · obtain ⟨E, hrd, hE⟩ := ak_other 1048576 3 bs0 s hnm
          have OC := hide (lopen_bad s hrd HH7.out (by omega) hE)
          have hne : (s.toList == (⟨#[108, 111, 103, 46, 49]⟩ : ByteArray).toList) = false := ne_name hnm
          have hne2 : (s.toList == [108, 111, 103, 46, 49]) = false := ne_name2 hnm
          have hne3 : ¬ (s.toList = [108, 111, 103, 46, 49]) := fun e => by rw [e] at hne2; simp at hne2
          have HRD := hide hrd
          have hEi : ¬ ((E : Int) = 0) := by omega
          have hEn : ((E : Int) != 0) = true := by simpa using hEi
          clear hrd
          go_wp2_with fail
          refine OC.out.mono ?_
          rintro e w8 ⟨rfl, H8, hb8⟩
          have HB8 := hide (bmore HB7.out hb8)
          have RD := hide (read_h s HRD.out H8 (by omega))
          clear H8 hb8 OC HB7 HH7
          go_wp2_with fail
          refine RD.out.mono ?_
          rintro e w9 ⟨ao9, cap9, rfl, -, -, hb9⟩
          have HB9 := hide (bmore HB8.out hb9)
          have AW := hide (lawake_any w9)
          clear hb9 RD HB8
          go_wp2_with fail
          refine AW.out.mono ?_
          rintro e w10 ⟨rfl, hb⟩
          have HBE := hide (bmore HB9.out hb)
          clear hb AW
          go_wp2
          go_ret
          exact ⟨rfl, HBE.out⟩
    · have OP := hide (lopen_corrupt nm1 RDN.out HH4.out (by decide) hlen hrg.out hc)
      have h9 : rp bs0 = ([], 0, 9) := (rp_err bs0).resolve_left hc
      have HC := hide h9
      rw [h9] at OP
      clear hc h9
      go_wp2_with fail
      refine OP.out.mono ?_
      rintro e w5 ⟨rfl, H5, hb5⟩
      have HB5 := hide (bmore HB4.out hb5)
      have HH5 := hide H5
      obtain ⟨a5, ha5⟩ : ∃ a5 : Option Addr, a5 = none := ⟨_, rfl⟩
      obtain ⟨n5, hn5e⟩ : ∃ n5 : Nat, n5 = 0 := ⟨_, rfl⟩
      obtain ⟨c5, hc5⟩ : ∃ c5 : Nat, c5 = 0 := ⟨_, rfl⟩
      obtain ⟨yy5, hyy⟩ : ∃ yy5 : List Sl, yy5 = [] := ⟨_, rfl⟩
      have hn5 : n5 ≤ 9223372036854775807 := by omega
      have HRW5 : Hid (Rws w5 a5 n5 c5 yy5) := hide (by rw [ha5, hn5e, hc5, hyy]; exact rws_nil w5)
      have HYM5 : Hid (yy5.map Sl.l = (rp bs0).1) := hide (by rw [hyy, HC.out]; rfl)
      rw [show (Value.slice none 0 0) = Value.slice a5 n5 c5 by rw [ha5, hn5e, hc5]]
      clear H5 hb5 OP HB4 HH4 ha5 hn5e hc5 hyy
      have RP := hide (rreplay_any bs0 w5 hlen hrg.out)
      have hcv := conv_bs (HBB.out _ HB5.out)
      generalize strOfNums bs0 = SB at *
      go_wp2_with fail
      refine RP.out.mono ?_
      rintro e w6 ⟨v6, ys6, rfl, hor6, hym6, hb6, -⟩
      rw [HC.out] at hym6 HYM5 ⊢
      obtain ⟨a6, c6, rfl, hrw6, hcm6⟩ := hor6.rws
      have HB6 := hide (bmore HB5.out hb6)
      have HH6 := hide (HH5.out.same hb6).1
      have SM := hide (lsame_any a5 a6 n5 c5 ys6.length c6 yy5 ys6 w6 (HRW5.out.below hb6 (Nat.le_refl _)) hrw6 hn5 (Nat.le_trans hrw6.2.1.1 hcm6))
      rw [show eqLL (yy5.map Sl.l) (ys6.map Sl.l) = true by rw [HYM5.out, hym6]; exact eqLL_refl _] at SM
      clear hor6 hym6 hb6 hrw6 RP hcv HB5 HH5
      go_wp2_with fail
      refine SM.out.mono ?_
      rintro e w7 ⟨rfl, hb7⟩
      have HB7 := hide (bmore HB6.out hb7)
      have HH7 := hide (HH6.out.same hb7).1
      clear hb7 SM HB6 HH6
      by_cases hnm : s = nm1
      · subst hnm
        have OC := hide (lopen_code nm1 RDN.out HH7.out (by decide) hlen hrg.out)
        go_wp2_with fail
        refine OC.out.mono ?_
        rintro e w8 ⟨v0, v1, v2, rfl, H8, hb8⟩
        have HB8 := hide (bmore HB7.out hb8)
        have RD := hide (read_h nm1 RDN.out H8 (by decide))
        generalize (if (0 : Nat) = 0 then (rp bs0).2.2 else ((0 : Nat) : Int)) = J at *
        clear H8 hb8 OC HB7 HH7
        go_wp2_with fail
        refine RD.out.mono ?_
        rintro e w9 ⟨ao9, cap9, rfl, -, -, hb9⟩
        have HB9 := hide (bmore HB8.out hb9)
        have AW := hide (lawake_any w9)
        have hnn : (nm1.toList == nm1.toList) = true := by simp
        generalize bs0.length = BL at *
        clear hb9 RD HB8
        unfold nm1 at hnn ⊢
        go_wp2_with fail
        refine AW.out.mono ?_
        rintro e w10 ⟨rfl, hb⟩
        have HBE := hide (bmore HB9.out hb)
        clear hb AW
        go_wp2
        go_ret
        exact ⟨rfl, HBE.out⟩
      · obtain ⟨E, hrd, hE⟩ := ak_other 1048576 3 bs0 s hnm
        have OC := hide (lopen_bad s hrd HH7.out (by omega) hE)
        have hne : (s.toList == (⟨#[108, 111, 103, 46, 49]⟩ : ByteArray).toList) = false := ne_name hnm
        have hne2 : (s.toList == [108, 111, 103, 46, 49]) = false := ne_name2 hnm
        have hne3 : ¬ (s.toList = [108, 111, 103, 46, 49]) := fun e => by rw [e] at hne2; simp at hne2
        have HRD := hide hrd
        have hEi : ¬ ((E : Int) = 0) := by omega
        have hEn : ((E : Int) != 0) = true := by simpa using hEi
        clear hrd
        go_wp2_with fail
        refine OC.out.mono ?_
        rintro e w8 ⟨rfl, H8, hb8⟩
        have HB8 := hide (bmore HB7.out hb8)
        have RD := hide (read_h s HRD.out H8 (by omega))
        clear H8 hb8 OC HB7 HH7
        go_wp2_with fail
        refine RD.out.mono ?_
        rintro e w9 ⟨ao9, cap9, rfl, -, -, hb9⟩
        have HB9 := hide (bmore HB8.out hb9)
        have AW := hide (lawake_any w9)
        clear hb9 RD HB8
        go_wp2_with fail
        refine AW.out.mono ?_
        rintro e w10 ⟨rfl, hb⟩
        have HBE := hide (bmore HB9.out hb)
        clear hb AW
        go_wp2
        go_ret
        exact ⟨rfl, HBE.out⟩

end Go.Proofs.Ytdldpdllhnpdaab.Clep
