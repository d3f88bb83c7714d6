/- What open does when called. Conditions: the Table lies in memory as said. -/
import Derived.Test.YtodhljiboakjnaaGreatQd
import Derived.Test.YtodhljiboakjnaaGreatQe
import Derived.Test.YtodhljiboakjnaaGreatQc
namespace Go.Proofs.YtodhljiboakjnaaGreat.Clep
open Go.RowKit
set_option linter.unusedVariables false

theorem tbV_done (n : Nat) (bl bd v : Value) (F : Nat) : (((((tbV n bl bd 0 1 (.slice none 0 0) F).setIfInBounds 6 v).setIfInBounds 2 (.slice none 0 0)).setIfInBounds 3 (.int .u32 1)).setIfInBounds 4 (.int .i32 0)) = tbV n bl (.slice none 0 0) 1 0 v F := rfl
/-- An answer of open: the marks. -/
def Mk (w : World) (B : Nat → Prop) (M : Nat) (l : List It) (a : Option Addr) (c : Nat) : Prop := c ≤ 9223372036854775807 ∧ Ms w a (nb l) c (mks l (nb l)) ∧ ∀ x, a = some x → B x.block ∧ x.block ≠ M
set_option maxRecDepth 100000 in
theorem open_again (w : World) (M : Nat) (B : Nat → Prop) (l : List It) (h : Tb w M B 1 l) :
    Calls Tryz.prog 43 #[.pointer (some ⟨M, 2, none⟩)] w fun e w' => ∃ am cm, e = .returned (.slice am (nb l) cm) ∧ Mk w B M l am cm ∧ Below w.heap.size w w' := by
  obtain ⟨ok, bas, lt, a1, c1, F, D, bd, mk, k1, k2, k3, k4, k5, k6, ⟨q1, -⟩ | ⟨-, am, cm, rfl, q3, q4, q5⟩⟩ := h
  · cases q1
  have A1 := (Below.refl _ w).alloc (Nat.le_refl _) (Obj.cells #[.pointer (some ⟨M, 2, none⟩)] 112)
  obtain ⟨w1, hw1⟩ : ∃ w1, w1 = w.alloc (Obj.cells #[.pointer (some ⟨M, 2, none⟩)] 112) := ⟨_, rfl⟩
  have K1 := hpS w (Obj.cells #[.pointer (some ⟨M, 2, none⟩)] 112) w.heap.size rfl
  rw [← hw1] at A1 K1
  have hb := k1.keep A1
  have B1 := hide A1
  have hpl : w1.cell? ⟨w.heap.size, 0, none⟩ = some (.pointer (some ⟨M, 2, none⟩)) := by simp [World.cell?, K1]
  have hDo := hide (do_done ⟨M, 3, none⟩ (.func (.func 66) #[] #[.pointer (some ⟨w.heap.size, 0, none⟩)]) w1 (hb.cell rfl))
  have c5 : w1.cell? ⟨M, 6, none⟩ = some (.slice am (nb l) cm) := hb.cell rfl
  have HA := hide (show Mk w B M l am cm from ⟨q3, q4, q5⟩)
  clear A1 K1 hb k1 k2 k3 k4 k5 k6 q3 q4 q5
  generalize nb l = N at *
  go_enter Tryz.func43, Tryz.ntmps43
  go_wp2_with fail
  rw [← hw1]
  clear hw1
  refine hDo.out.mono ?_
  rintro e w2 ⟨rfl, rfl⟩
  clear hDo
  go_wp2
  go_ret
  exact ⟨_, _, rfl, HA.out, B1.out⟩
set_option maxRecDepth 100000 in
set_option maxHeartbeats 1000000 in
theorem open_first (w : World) (M : Nat) (B : Nat → Prop) (l : List It) (h : Tb w M B 0 l) :
    Calls Tryz.prog 43 #[.pointer (some ⟨M, 2, none⟩)] w fun e w' => ∃ am cm, e = .returned (.slice am (nb l) cm) ∧ Mk w' (Mo w w' B) M l am cm ∧ Tb w' M (Mo w w' B) 1 l ∧ Ch (fun b => b = M) w w' := by
  obtain ⟨ok, bas, lt, a1, c1, F, D, bd, mk, k1, k2, k3, k4, k5, k6, ⟨-, rfl, a2, c2, rfl, q3, q4, q5⟩ | ⟨q1, -⟩⟩ := h
  rotate_left
  · cases q1
  have A1 := (Below.refl _ w).alloc (Nat.le_refl _) (Obj.cells #[.pointer (some ⟨M, 2, none⟩)] 112)
  obtain ⟨w1, hw1⟩ : ∃ w1, w1 = w.alloc (Obj.cells #[.pointer (some ⟨M, 2, none⟩)] 112) := ⟨_, rfl⟩
  have K1 := hpS w (Obj.cells #[.pointer (some ⟨M, 2, none⟩)] 112) w.heap.size rfl
  rw [← hw1] at A1 K1
  have hMlt := k1.lt
  have hb := k1.keep A1
  have hne : w.heap.size ≠ M := by omega
  have B1 := hide A1
  have hpl : w1.cell? ⟨w.heap.size, 0, none⟩ = some (.pointer (some ⟨M, 2, none⟩)) := by simp [World.cell?, K1]
  have c3 : (w1.setCell ⟨M, 4, none⟩ (.int .i32 1)).cell? ⟨w.heap.size, 0, none⟩ = some (.pointer (some ⟨M, 2, none⟩)) :=
    (World.cell?_setCell_other _ ⟨M, 4, none⟩ ⟨w.heap.size, 0, none⟩ _ (by intro e; injection e with e1; exact hne e1.symm)).trans hpl
  have k3' := hb.set 4 (.int .i32 1)
  have hbs1 : Bs (w1.setCell ⟨M, 4, none⟩ (.int .i32 1)) a2 (tI l).length c2 (tI l) := (q4.below A1 (Nat.le_refl _)).ch (Ch.set (P := fun b => b = M) w1 ⟨M, 4, none⟩ _ rfl) (fun h0 x hx e => (q5 h0 x hx).2 e)
  have hsz : (w1.setCell ⟨M, 4, none⟩ (.int .i32 1)).heap.size = w1.heap.size := by simp [World.setCell]
  have hL1 := open1_any w.heap.size M a2 (tI l).length c2 l (.slice none 0 0) _ c3 (k3'.cell rfl) (k3'.cell rfl) (k3'.free 6) (k3'.free 2) hne q3 hbs1 ok
  rw [hsz] at hL1
  have hM1 : M < w1.heap.size := hb.lt
  have hF := hide (qdo_first M 3 ⟨w.heap.size, 0, none⟩ (fun w2 => ∃ v, Blk w2 M (((tbV l.length (.slice a1 (tA l).length c1) (.slice a2 (tI l).length c2) 0 1 (.slice none 0 0) F).setIfInBounds 6 v).setIfInBounds 2 (.slice none 0 0)) 89 ∧ OwnM w2 w1.heap.size v (mks l (nb l)) ∧ Ch (fun b => b = M) (w1.setCell ⟨M, 4, none⟩ (.int .i32 1)) w2)
    w1 (hb.cell rfl) (hb.cell rfl) (hb.free 3) (hb.free 4) (hide (hL1.mono fun e w' ⟨he, w4, v', hb4, ho, hw'⟩ => ⟨he, v', by
      rw [hw']; exact ((k3'.below hb4 (by omega)).set 6 v').set 2 _, by
      rw [hw']
      have c9 := (Ch.set (P := fun b => b = M) w4 ⟨M, 6, none⟩ v' rfl).trans (Ch.set _ ⟨M, 2, none⟩ (.slice none 0 0) rfl)
      exact World.ownsRow.kept ho (ch_gb c9) (by
        cases hv : v'.ownBlock with
        | none => exact .inl rfl
        | some k => exact .inr fun e => by have := (World.ownsRow.lt ho k hv).1; cases e; omega), by
      rw [hw']; exact (Ch.trans (Ch.of (by rw [hsz]; exact hb4)) (Ch.set (P := fun b => b = M) w4 ⟨M, 6, none⟩ _ rfl)).trans (Ch.set _ ⟨M, 2, none⟩ (.slice none 0 0) rfl)⟩)) (hide (fun w2 ⟨v, e, _, _⟩ => ⟨e.cell rfl, e.cell rfl, e.free 3, e.free 4⟩)))
  have HPL := hide hpl
  have HK := hide k2
  have HK3 := hide k3
  have HL := hide k4
  have HOK := hide ok
  clear hb A1 K1 hpl c3 k3' hL1 hsz hbs1 k1 k2 k3 k4 q3 q4 q5
  go_enter Tryz.func43, Tryz.ntmps43
  go_wp2_with fail
  rw [← hw1]
  clear hw1
  refine hF.out.mono ?_
  rintro e w3 ⟨rfl, w2, ⟨v, q1, q2, q3⟩, rfl⟩
  clear hF
  have r1 : Blk ((w2.drew.setCell ⟨M, 3, none⟩ (.int .u32 1)).setCell ⟨M, 3 + 1, none⟩ (.int .i32 0)) M (tbV l.length (.slice a1 (tA l).length c1) (.slice none 0 0) 1 0 v F) 89 := by
    rw [← tbV_done l.length (.slice a1 (tA l).length c1) (.slice a2 (tI l).length c2) v F]
    have q0 : Blk w2.drew M _ _ := q1
    exact (q0.set 3 (.int .u32 1)).set 4 (.int .i32 0)
  have c2' : Ch (fun b => b = M) w2 ((w2.drew.setCell ⟨M, 3, none⟩ (.int .u32 1)).setCell ⟨M, 3 + 1, none⟩ (.int .i32 0)) := by
    refine Ch.trans ?_ (Ch.set _ ⟨M, 3 + 1, none⟩ (.int .i32 0) rfl)
    refine Ch.trans ?_ (Ch.set _ ⟨M, 3, none⟩ (.int .u32 1) rfl)
    exact Ch.of (Below.refl _ _).drew
  have r3 : Ch (fun b => b = M) w1 ((w2.drew.setCell ⟨M, 3, none⟩ (.int .u32 1)).setCell ⟨M, 3 + 1, none⟩ (.int .i32 0)) :=
    ((Ch.set (P := fun b => b = M) w1 ⟨M, 4, none⟩ (.int .i32 1) rfl).trans q3).trans c2'
  have r2 : OwnM ((w2.drew.setCell ⟨M, 3, none⟩ (.int .u32 1)).setCell ⟨M, 3 + 1, none⟩ (.int .i32 0)) w1.heap.size v (mks l (nb l)) := World.ownsRow.kept q2 (ch_gb c2') (by
    cases hv : v.ownBlock with
    | none => exact .inl rfl
    | some k => exact .inr fun e => by have := (World.ownsRow.lt q2 k hv).1; cases e; omega)
  clear q1 q2 q3 c2'
  have c1' : ((w2.drew.setCell ⟨M, 3, none⟩ (.int .u32 1)).setCell ⟨M, 3 + 1, none⟩ (.int .i32 0)).cell? ⟨w.heap.size, 0, none⟩ = some (.pointer (some ⟨M, 2, none⟩)) := by
    rw [World.cell?_of_block (a := ⟨w.heap.size, 0, none⟩) (r3.block w.heap.size (World.block_lt_of_cell? w1 _ HPL.out) hne)]
    exact HPL.out
  generalize (w2.drew.setCell ⟨M, 3, none⟩ (.int .u32 1)).setCell ⟨M, 3 + 1, none⟩ (.int .i32 0) = w4 at *
  obtain ⟨am, cm, rfl, hcm, hms, hmb⟩ := ownM_ms r2
  rw [mks_len] at hms r1
  have c5 : w4.cell? ⟨M, 6, none⟩ = some (.slice am (nb l) cm) := r1.cell rfl
  have R1 := hide r1
  have R2 := hide hms
  have R3 := hide r3
  have HMB := hide hmb
  clear r1 r2 r3 hms hmb
  generalize hNN : nb l = N at *
  have HNN := hide hNN
  clear hNN
  go_wp2
  go_ret
  have hch := (Ch.of (P := fun b => b = M) B1.out).trans R3.out
  have hsz := hch.size
  have hMk : ∀ x, am = some x → Mo w w4 B x.block ∧ x.block ≠ M := fun x hx => ⟨.inr ⟨by have := (HMB.out x hx).1; have := B1.out.size; omega, (HMB.out x hx).2⟩, by have := (HMB.out x hx).1; omega⟩
  have e : ∀ {ao : Option Addr} {n : Nat}, Inn B M ao n → Inn (Mo w w4 B) M ao n := fun ho h0 x hx => ⟨.inl (ho h0 x hx).1, (ho h0 x hx).2⟩
  refine ⟨am, cm, by rw [HNN.out]; rfl, ⟨hcm, by rw [HNN.out]; exact R2.out, hMk⟩, ⟨HOK.out, .inl bas, fun b hb => hb.elim (fun e => Nat.lt_of_lt_of_le (lt b e) hsz) (fun e => e.2), a1, c1, F, D, _, _, R1.out, HK.out.ch hch (fun h0 x hx e => (HK3.out h0 x hx).2 e), e HK3.out, HL.out.ch hch k5.2 k6.2, ⟨.inl k5.1, k5.2⟩, ⟨.inl k6.1, k6.2⟩, .inr ⟨rfl, am, cm, by rw [HNN.out], hcm, by rw [HNN.out]; exact R2.out, hMk⟩⟩, hch⟩
/-- open, whether or not it was called before. -/
theorem open_any (w : World) (M d : Nat) (B : Nat → Prop) (l : List It) (h : Tb w M B d l) :
    Calls Tryz.prog 43 #[.pointer (some ⟨M, 2, none⟩)] w fun e w' => ∃ am cm, e = .returned (.slice am (nb l) cm) ∧ Mk w' (Mo w w' B) M l am cm ∧ Tb w' M (Mo w w' B) 1 l ∧ Ch (fun b => b = M) w w' := by
  rcases h.d with e | e
  · subst e; exact open_first w M B l h
  · subst e
    exact (open_again w M B l h).mono fun e w' ⟨am, cm, h1, h2, h3⟩ => ⟨am, cm, h1, ⟨h2.1, h2.2.1.ch (P := fun _ => False) (Ch.of h3) (fun _ _ h => h), fun x hx => ⟨.inl (h2.2.2 x hx).1, (h2.2.2 x hx).2⟩⟩, (h.keep h3).wide (fun b hb => .inl hb) (fun b hb => hb.elim (fun e => Nat.lt_of_lt_of_le (h.lt b e) h3.size) (fun e => e.2)), Ch.of h3⟩

end Go.Proofs.YtodhljiboakjnaaGreat.Clep

/- What Read does when called. Conditions: at most 2^45 bytes. -/
namespace Go.Proofs.YtodhljiboakjnaaGreat.Clep
open Go.RowKit
set_option linter.unusedVariables false

set_option maxRecDepth 100000 in
set_option maxHeartbeats 2000000 in
theorem tread_any (a : Option Addr) (n c : Nat) (X : List Int) (w : World) (h : Bs w a n c X) (hn : n ≤ 35184372088832) :
    Calls Tryz.prog 14 #[.slice a n c] w fun e w' => Below w.heap.size w w' ∧ ((isT X = false ∧ e = .returned (.tuple #[.pointer none, .int .i64 9])) ∨
      (isT X = true ∧ ∃ M, e = .returned (.tuple #[.pointer (some ⟨M, 0, none⟩), .int .i64 0]) ∧ Tb w' M (fun b => b < w'.heap.size) 0 (bg X) ∧ w.heap.size ≤ M)) := by
  have H0 := hide (fun W (hW : Below w.heap.size w W) => h.below hW (Nat.le_refl _))
  have hbg := hide (begin_any a n c X w h hn)
  have HWF := hide (show ∀ x ∈ bg X, x.wf from bgs_wf _ _ _ (bs_range h) (by simp))
  have HTM := hide (fun e : tme (bg X) ≠ 0 => show isT X = false from by
    cases hT : isT X with
    | false => rfl
    | true => exact absurd (isT_iff.1 hT).1 e)
  have HTN := hide (fun e : X ≠ tb (bg X) => show isT X = false from by
    cases hT : isT X with
    | false => rfl
    | true => exact absurd (isT_iff.1 hT).2 e)
  have HTY := hide (fun (e1 : tme (bg X) = 0) (e : X = tb (bg X)) => show isT X = true from isT_iff.2 ⟨e1, e⟩)
  generalize bg X = l at *
  clear h
  go_enter Tryz.func14, Tryz.ntmps14
  go_wp2_with fail
  refine hbg.out.mono ?_
  rintro e w1 ⟨v1, rfl, ho1, hb1⟩
  obtain ⟨al, cl, rfl, hcl, hI1, -⟩ := ownI_is ho1 HWF.out
  obtain ⟨m, hm⟩ : ∃ m, l.length = m := ⟨_, rfl⟩
  rw [hm] at hI1 ⊢
  have HM := hide hm
  have hmm : m ≤ 9223372036854775807 := Nat.le_trans hI1.2.1.1 hcl
  have HI := hide (fun W (hW : Below w1.heap.size w1 W) => hI1.below hW (Nat.le_refl _))
  have B1 := hide hb1
  have hck := hide (check_l al m cl l w1 hI1 hmm)
  clear hbg ho1 hb1 hI1 hm
  by_cases ht : tme l = 0
  · rw [ht] at hck
    have HT := hide (tme_zero ht HWF.out)
    have HTE := hide ht
    have hm2 : m ≤ 2000 := by rw [← HM.out]; exact HT.out.len
    have hL := hide (fun W (hW : Below w1.heap.size w1 W) => tlay_any al m cl l W (HI.out W hW) HT.out hcl)
    clear ht
    go_wp2_with fail
    refine hck.out.mono ?_
    rintro e w2 ⟨rfl, hb2⟩
    have B2 := hide hb2
    clear hb2 hck
    go_wp2_with fail
    refine (hL.out _ B2.out).mono ?_
    rintro e w3 ⟨a1, c1, a2, c2, F, rfl, hb3, hc1, hc2, w5, hw5, hs1, hs2, ho1, ho2, hone⟩
    obtain ⟨P, hP, hPw⟩ := hone.ex
    have hFw := (hPw F hP.base).1
    obtain ⟨LA, hLA⟩ : ∃ LA, (tA l).length = LA := ⟨_, rfl⟩
    obtain ⟨LI, hLI⟩ : ∃ LI, (tI l).length = LI := ⟨_, rfl⟩
    have hA := (Below.refl _ w3).alloc (Nat.le_refl _) (Obj.cells (ptV m (.slice a1 LA c1) (.slice a2 LI c2) (some ⟨F, 0, none⟩)) 59)
    have hK := hpS w3 (Obj.cells (ptV m (.slice a1 LA c1) (.slice a2 LI c2) (some ⟨F, 0, none⟩)) 59) w3.heap.size rfl
    obtain ⟨w4, hw4⟩ : ∃ w4, w4 = w3.alloc (Obj.cells (ptV m (.slice a1 LA c1) (.slice a2 LI c2) (some ⟨F, 0, none⟩)) 59) := ⟨_, rfl⟩
    rw [← hw4] at hA hK
    have KB : Hid (Blk w4 w3.heap.size (ptV m (.slice a1 LA c1) (.slice a2 LI c2) (some ⟨F, 0, none⟩)) 59) := hide hK
    have hO1 : Out (fun b => b = F) a1 (tA l).length := fun h0 x hx e => ho1 h0 x hx (by rw [e]; exact hFw)
    have hO2 : Out (fun b => b = F) a2 (tI l).length := fun h0 x hx e => ho2 h0 x hx (by rw [e]; exact hFw)
    have hY := hide (pbytes_any a1 a2 m c1 c2 F P l w4 HT.out HM.out.symm (hs1.below hA (Nat.le_refl _)) (hs2.below hA (Nat.le_refl _)) (hP.keep hA) hO1 hO2)
    have B4 := hide (bmore (bmore (bmore B1.out B2.out) hb3) hA)
    have HFW := hide (show w.heap.size ≤ F from Nat.le_trans (Nat.le_trans (bmore B1.out B2.out).size hw5) hFw)
    have HF3 : Hid (F < w3.heap.size) := hide (hP.lt F hP.base)
    have HS1 := hide (hs1.below hA (Nat.le_refl _))
    have HS2 := hide (hs2.below hA (Nat.le_refl _))
    have HO1 := hide hO1
    have HO2 := hide hO2
    have HC2 : Hid (c2 ≤ 9223372036854775807) := hide (by unfold maxLen at hc2; omega)
    rw [hLA, hLI] at hY ⊢
    rw [hLA] at HS1 HO1
    rw [hLI] at HS2 HO2
    have HLA := hide hLA
    have HLI := hide hLI
    have g0 : w4.cell? ⟨w3.heap.size, 0, none⟩ = some (.int .i64 m) := KB.out.cell rfl
    have g1 : w4.cell? ⟨w3.heap.size, 1, none⟩ = some (.slice a1 LA c1) := KB.out.cell rfl
    have g2 : w4.cell? ⟨w3.heap.size, 2, none⟩ = some (.slice a2 LI c2) := KB.out.cell rfl
    have g3 : w4.cell? ⟨w3.heap.size, 3, none⟩ = some (.pointer (some ⟨F, 0, none⟩)) := KB.out.cell rfl
    clear hL hb3 hs1 hs2 ho1 ho2 hone hP hPw hFw hA hK hO1 hO2 hLA hLI hc1 hc2 hw5
    go_wp2_with fail
    rw [show w3.alloc (Obj.cells #[Value.int IntKind.i64 (m : Int), Value.slice a1 LA c1, Value.slice a2 LI c2, Value.pointer (some { block := F, off := 0 })] 59) = w4 from by rw [hw4]; rfl]
    clear hw4
    obtain ⟨R, hR⟩ : ∃ R, R = w3.heap.size := ⟨_, rfl⟩
    have HR := hide hR
    rw [← hR] at KB g0 g1 g2 g3 ⊢
    clear hR
    refine hY.out.mono ?_
    rintro e w6 ⟨v6, rfl, ho6, hc6, D, hD⟩
    obtain ⟨a6, c6, rfl, -, hbs6, -⟩ := own_at0 ho6 (tb_range HT.out)
    obtain ⟨L6, hL6⟩ : ∃ L6, (tb l).length = L6 := ⟨_, rfl⟩
    rw [hL6] at hbs6 ⊢
    have C6 := hide hc6
    have B6 : Hid (Below w.heap.size w w6) := hide (Clep.Below.ch B4.out hc6 B4.out.size (fun i hi => by rw [hi]; exact HFW.out))
    have K6 := hide (KB.out.ch hc6 (by have := HF3.out; have := HR.out; omega))
    have HD := hide hD
    have hE := hide (bequal_any a6 a L6 c6 n c (tb l) X w6 hbs6 (H0.out _ B6.out))
    have S16 := hide (HS1.out.ch hc6 HO1.out)
    have S26 := hide (HS2.out.ch hc6 HO2.out)
    clear hY ho6 hbs6 hc6 hL6 g0 g1 g2 g3 hD
    by_cases hx : tb l = X
    · rw [show decide (tb l = X) = true from by simp [hx]] at hE
      have HX := hide hx
      clear hx
      go_wp2_with fail
      refine hE.out.mono ?_
      rintro e w7 ⟨rfl, hb7⟩
      have K7 := hide (K6.out.keep hb7)
      have g0 : w7.cell? ⟨R, 0, none⟩ = some (.int .i64 m) := K7.out.cell rfl
      have g1 : w7.cell? ⟨R, 1, none⟩ = some (.slice a1 LA c1) := K7.out.cell rfl
      have g2 : w7.cell? ⟨R, 2, none⟩ = some (.slice a2 LI c2) := K7.out.cell rfl
      have g3 : w7.cell? ⟨R, 3, none⟩ = some (.pointer (some ⟨F, 0, none⟩)) := K7.out.cell rfl
      have B7 := hide (bmore B6.out hb7)
      have HB7 := hide hb7
      clear hE hb7
      go_wp2
      go_ret2
      have A8 := (Below.refl _ w7).alloc (Nat.le_refl _) (Obj.cells (tbV m (.slice a1 LA c1) (.slice a2 LI c2) 0 0 (.slice none 0 0) F) 89)
      have K8 := hpS w7 (Obj.cells (tbV m (.slice a1 LA c1) (.slice a2 LI c2) 0 0 (.slice none 0 0) F) 89) w7.heap.size rfl
      have hs8 : (w7.alloc (Obj.cells (tbV m (.slice a1 LA c1) (.slice a2 LI c2) 0 0 (.slice none 0 0) F) 89)).heap.size = w7.heap.size + 1 := by simp
      generalize hw8 : w7.alloc (Obj.cells #[Value.int IntKind.i64 (m : Int), Value.slice a1 LA c1, Value.slice a2 LI c2, Value.int IntKind.u32 0, Value.int IntKind.i32 0, Value.int IntKind.u32 0, Value.slice none 0 0, Value.pointer (some { block := F, off := 0 })] 89) = w8
      have ew : w7.alloc (Obj.cells (tbV m (.slice a1 LA c1) (.slice a2 LI c2) 0 0 (.slice none 0 0) F) 89) = w8 := hw8
      rw [ew] at A8 K8 hs8
      have hout : ∀ {ao : Option Addr} {k cc : Nat} {zs : List Int}, Bs w7 ao k cc zs → Inn (fun b => b < w7.heap.size + 1) w7.heap.size ao k := fun hb h0 x hx => by have := blk_bs_lt hb h0 x hx; omega
      have S1 := S16.out.below HB7.out (Nat.le_refl _)
      have S2 := S26.out.below HB7.out (Nat.le_refl _)
      have L7 := HD.out.keep HB7.out
      refine ⟨bmore B7.out A8, .inr ⟨HTY.out HTE.out HX.out.symm, w7.heap.size, rfl, ⟨HT.out, (by rw [hs8]; omega), fun b hb => hb, a1, c1, F, D, .slice a2 LI c2, .slice none 0 0, ?_, ?_, ?_, L7.keep A8, ?_, ?_, ?_⟩, B7.out.size⟩⟩
      · rw [HM.out, HLA.out]; exact K8
      · rw [HLA.out]; exact S1.below A8 (Nat.le_refl _)
      · rw [HLA.out, hs8]; exact hout S1
      · have := L7.head.lt; rw [hs8]; omega
      · have := L7.words.lt; rw [hs8]; omega
      · exact .inl ⟨rfl, rfl, a2, c2, by rw [HLI.out], HC2.out, by rw [HLI.out]; exact S2.below A8 (Nat.le_refl _), by rw [HLI.out, hs8]; exact hout S2⟩
    · rw [show decide (tb l = X) = false from by simp [hx]] at hE
      have HX := hide (HTN.out (fun e => hx e.symm))
      clear hx
      go_wp2_with fail
      refine hE.out.mono ?_
      rintro e w7 ⟨rfl, hb7⟩
      have B7 := hide (bmore B6.out hb7)
      clear hE hb7
      go_wp2
      go_ret2
      exact ⟨B7.out, .inl ⟨HX.out, rfl⟩⟩
  · have HX := hide (HTM.out ht)
    obtain ⟨t, htt⟩ : ∃ t, tme l = t := ⟨_, rfl⟩
    rw [htt] at hck ht
    have ht2 : (t == 0) = false := by simp [ht]
    clear htt
    go_wp2_with fail
    refine hck.out.mono ?_
    rintro e w2 ⟨rfl, hb2⟩
    have B2 := hide (bmore B1.out hb2)
    clear hck hb2
    go_wp2
    go_ret2
    exact ⟨B2.out, .inl ⟨HX.out, rfl⟩⟩

end Go.Proofs.YtodhljiboakjnaaGreat.Clep
