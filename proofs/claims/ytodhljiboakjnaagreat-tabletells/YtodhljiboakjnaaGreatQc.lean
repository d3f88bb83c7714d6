/- What the bytes of parts are, and what Make does when called. Conditions: the parts lie in memory as lay made them. -/
import Derived.Test.YtodhljiboakjnaaGreatQb
import Derived.Test.YtodhljiboakjnaaGreatQa
namespace Go.Proofs.YtodhljiboakjnaaGreat.Clep
open Go.RowKit
set_option linter.unusedVariables false

set_option maxRecDepth 100000 in
set_option maxHeartbeats 4000000 in
theorem pbytes_any (a1 a2 : Option Addr) (n c1 c2 F : Nat) (B : Nat → Prop) (l : List It) (w : World) (hT : TOk l) (hn : n = l.length) (h1 : Bs w a1 (tA l).length c1 (tA l)) (h2 : Bs w a2 (tI l).length c2 (tI l))
    (hF : Fl w F B 7 (tS l) (fN (tS l) l)) (ho1 : Out (fun b => b = F) a1 (tA l).length) (ho2 : Out (fun b => b = F) a2 (tI l).length) :
    Calls Tryz.prog 30 #[.agg #[.int .i64 n, .slice a1 (tA l).length c1, .slice a2 (tI l).length c2, .pointer (some ⟨F, 0, none⟩)]] w fun e w' => ∃ v, e = .returned v ∧ Own w' w.heap.size v (tb l) ∧ Ch (fun b => b = F) w w' ∧ ∃ D, Lf w' F D 7 (tS l) (fN (tS l) l) := by
  have hFlt := hF.lt F hF.base
  have A0 := (Below.refl _ w).alloc (Nat.le_refl _) (Obj.cells (ptV n (.slice a1 (tA l).length c1) (.slice a2 (tI l).length c2) (some ⟨F, 0, none⟩)) 59)
  have K0 := hpS w (Obj.cells (ptV n (.slice a1 (tA l).length c1) (.slice a2 (tI l).length c2) (some ⟨F, 0, none⟩)) 59) w.heap.size rfl
  obtain ⟨w0, hw0⟩ : ∃ w0, w0 = w.alloc (Obj.cells (ptV n (.slice a1 (tA l).length c1) (.slice a2 (tI l).length c2) (some ⟨F, 0, none⟩)) 59) := ⟨_, rfl⟩
  have hs0 : w0.heap.size = w.heap.size + 1 := by rw [hw0]; simp
  rw [← hw0] at A0 K0
  have KB : Hid (Blk w0 w.heap.size (ptV n (.slice a1 (tA l).length c1) (.slice a2 (tI l).length c2) (some ⟨F, 0, none⟩)) 59) := hide K0
  have HT := hide hT
  have HA := hide (fun W (hW : Below w0.heap.size w0 W) => (h1.below A0 (Nat.le_refl _)).below hW (Nat.le_refl _))
  have HI := hide (fun W (hW : Below w0.heap.size w0 W) => (h2.below A0 (Nat.le_refl _)).below hW (Nat.le_refl _))
  have HFl := hide (fun W (hW : Below w0.heap.size w0 W) => (hF.keep A0).keep hW)
  obtain ⟨LA, hLA⟩ : ∃ LA, (tA l).length = LA := ⟨_, rfl⟩
  obtain ⟨LI, hLI⟩ : ∃ LI, (tI l).length = LI := ⟨_, rfl⟩
  obtain ⟨LB, hLB⟩ : ∃ LB, (tB l).length = LB := ⟨_, rfl⟩
  have mA : LA ≤ 66200 := by rw [← hLA]; exact tA_len hT
  have mI : LI ≤ 5200 := by rw [← hLI]; exact tI_len hT
  have mB : LB ≤ 71500 := by rw [← hLB]; exact tB_len hT
  have mn : n ≤ 2000 := by rw [hn]; exact hT.len
  have HLA := hide hLA
  have HLI := hide hLI
  have HLB := hide hLB
  have HN := hide hn
  have AA := hide A0
  have HS0 := hide hs0
  have HFL := hide hFlt
  have hb0 : Hid (Below w0.heap.size w0 w0) := hide (Below.refl _ _)
  rw [hLA] at HA KB ⊢
  rw [hLI] at HI KB ⊢
  have c0 : w0.cell? ⟨w.heap.size, 0, none⟩ = some (.int .i64 n) := KB.out.cell rfl
  have c3 : w0.cell? ⟨w.heap.size, 1, none⟩ = some (.slice a1 LA c1) := KB.out.cell rfl
  have hP1 := hide (put_any none 0 0 [] w0 (LA : Int) (by omega) (by omega) (by omega) (bs_nil _))
  clear h1 h2 hF ho1 ho2 hT A0 K0 hLA hLI hLB hn hs0 hFlt
  go_enter Tryz.func30, Tryz.ntmps30
  go_wp2_with fail
  have ew : w0 = w.alloc (Obj.cells #[Value.int IntKind.i64 (n : Int), Value.slice a1 LA c1, Value.slice a2 LI c2, Value.pointer (some { block := F, off := 0 })] 59) := by rw [hw0, HLA.out, HLI.out]; rfl
  rw [← ew]
  clear ew hw0
  obtain ⟨R, hR⟩ : ∃ R, R = w.heap.size := ⟨_, rfl⟩
  have HR := hide hR
  rw [← hR] at KB c0 c3 ⊢
  clear hR
  refine hP1.out.mono ?_
  rintro e w1 ⟨v1, rfl, ho1, hb1⟩
  rw [List.nil_append] at ho1
  obtain ⟨e1, d1, rfl, -, hbs1, hl1⟩ := own_at0 ho1 (pu_range _ (by omega) (by omega))
  obtain ⟨L1, hL1⟩ : ∃ L1, (pu (LA : Int)).length = L1 := ⟨_, rfl⟩
  have m1 : L1 ≤ 10 := by rw [← hL1]; exact (pu_len _).2
  rw [hL1] at hbs1 hl1 ⊢
  have B1 := hide hb1
  have S1 := hide hbs1
  have O1 := hide (fun h0 x hx => show w0.heap.size ≤ x.block from (hl1 h0 x hx).1)
  have q1 : w1.cell? ⟨R, 1, none⟩ = some (.slice a1 LA c1) := (KB.out.keep hb1).cell rfl
  have q2 : w1.cell? ⟨R, 2, none⟩ = some (.slice a2 LI c2) := (KB.out.keep hb1).cell rfl
  have hP2 := hide (fput_any a1 a2 LA c1 LI c2 (tA l) (tI l) 3 w1 (by omega) (by omega) (by omega) (by omega) (HA.out _ hb1) (HI.out _ hb1))
  clear hP1 ho1 hb1 hbs1 hl1 hL1 c0 c3
  go_wp2_with fail
  refine hP2.out.mono ?_
  rintro e w2 ⟨v2, rfl, ho2, hb2⟩
  obtain ⟨e2, d2, rfl, -, hbs2, hl2⟩ := own_at0 ho2 (tB_range HT.out)
  rw [show (tA l ++ fr 3 (tI l)) = tB l from rfl] at ho2
  rw [show (tA l ++ fr 3 (tI l)).length = LB from HLB.out] at hbs2 hl2 ⊢
  rw [show (tA l ++ fr 3 (tI l)) = tB l from rfl] at hbs2
  have B2 := hide (bmore B1.out hb2)
  have S2 := hide hbs2
  have O2 := hide (fun h0 x hx => show w0.heap.size ≤ x.block from Nat.le_trans B1.out.size (hl2 h0 x hx).1)
  have S12 := hide (S1.out.below hb2 (Nat.le_refl _))
  have hP3 := hide (put_any e1 L1 d1 (pu (LA : Int)) w2 (LB : Int) (by omega) (by omega) (by omega) S12.out)
  clear hP2 ho2 hb2 hbs2 hl2 q1 q2
  go_wp2_with fail
  refine hP3.out.mono ?_
  rintro e w3 ⟨v3, rfl, ho3, hb3⟩
  obtain ⟨e3, d3, rfl, -, hbs3, hl3⟩ := own_at0 ho3 (cat_range (pu_range _ (by omega) (by omega)) (pu_range _ (by omega) (by omega)))
  obtain ⟨L3, hL3⟩ : ∃ L3, (pu (LA : Int) ++ pu (LB : Int)).length = L3 := ⟨_, rfl⟩
  have m3 : L3 ≤ 20 := by rw [← hL3, List.length_append]; have := (pu_len (LA : Int)).2; have := (pu_len (LB : Int)).2; omega
  rw [hL3] at hbs3 hl3 ⊢
  have B3 := hide (bmore B2.out hb3)
  have S3 := hide hbs3
  have O3 := hide (fun h0 x hx => show w0.heap.size ≤ x.block from Nat.le_trans B2.out.size (hl3 h0 x hx).1)
  have S23 := hide (S2.out.below hb3 (Nat.le_refl _))
  have q3 : w3.cell? ⟨R, 3, none⟩ = some (.pointer (some ⟨F, 0, none⟩)) := (KB.out.keep (bmore B2.out hb3)).cell rfl
  have hP4 := hide (bytes_h w3 F B 7 (tS l) (fN (tS l) l) (HFl.out _ (bmore B2.out hb3)))
  clear hP3 ho3 hb3 hbs3 hl3 hL3
  go_wp2_with fail
  refine hP4.out.mono ?_
  rintro e w4 ⟨v4, rfl, ho4, -, hc4, D, hD⟩
  obtain ⟨e4, d4, rfl, -, hbs4, hl4⟩ := own_at0 ho4 (tF_range HT.out)
  obtain ⟨LF, hLF⟩ : ∃ LF, (tF l).length = LF := ⟨_, rfl⟩
  have mF : LF ≤ 2520 := by rw [← hLF]; exact tF_len HT.out
  rw [show (fb 7 (tS l) (fN (tS l) l)).length = LF from hLF] at hbs4 hl4 ⊢
  rw [show fb 7 (tS l) (fN (tS l) l) = tF l from rfl] at hbs4
  have C4 := hide ((Ch.of (P := fun b => b = F) B3.out).trans hc4)
  have HLf := hide hD
  have S4 := hide hbs4
  have hlt0 : Hid (F < w0.heap.size) := hide (by have := HS0.out; have := HFL.out; omega)
  have S24 := hide (S23.out.ch hc4 (fun h0 x hx e => by have := O2.out h0 x hx; have := hlt0.out; omega))
  have S34 := hide (S3.out.ch hc4 (fun h0 x hx e => by have := O3.out h0 x hx; have := hlt0.out; omega))
  have K4 : Hid (Blk w4 R (ptV n (.slice a1 LA c1) (.slice a2 LI c2) (some ⟨F, 0, none⟩)) 59) := hide ((KB.out.keep B3.out).ch hc4 (by have := HR.out; have := HFL.out; omega))
  have hP5 := hide (fput_any e2 e4 LB d2 LF d4 (tB l) (tF l) 4 w4 (by omega) (by omega) (by omega) (by omega) S24.out S4.out)
  clear hP4 ho4 hc4 hD hbs4 hl4 hLF q3
  go_wp2_with fail
  refine hP5.out.mono ?_
  rintro e w5 ⟨v5, rfl, ho5, hb5⟩
  obtain ⟨e5, d5, rfl, -, hbs5, hl5⟩ := own_at0 ho5 (tC_range HT.out)
  obtain ⟨LC, hLC⟩ : ∃ LC, (tC l).length = LC := ⟨_, rfl⟩
  have mC : LC ≤ 74100 := by rw [← hLC]; exact tC_len HT.out
  rw [show (tB l ++ fr 4 (tF l)).length = LC from hLC] at hbs5 hl5 ⊢
  rw [show tB l ++ fr 4 (tF l) = tC l from rfl] at hbs5
  have B5 := hide hb5
  have S5 := hide hbs5
  have S35 := hide (S34.out.below hb5 (Nat.le_refl _))
  have q5 : w5.cell? ⟨R, 0, none⟩ = some (.int .i64 n) := (K4.out.keep hb5).cell rfl
  have hP6 := hide (put_any e3 L3 d3 (pu (LA : Int) ++ pu (LB : Int)) w5 (n : Int) (by omega) (by omega) (by omega) S35.out)
  clear hP5 ho5 hb5 hbs5 hl5 hLC
  go_wp2_with fail
  refine hP6.out.mono ?_
  rintro e w6 ⟨v6, rfl, ho6, hb6⟩
  have hE : Hid (pu (LA : Int) ++ pu (LB : Int) ++ pu (n : Int) = tE l) := hide (by unfold tE; rw [HLA.out, HLB.out, HN.out])
  rw [hE.out] at ho6
  obtain ⟨e6, d6, rfl, -, hbs6, hl6⟩ := own_at0 ho6 (tE_range HT.out)
  obtain ⟨LE, hLE⟩ : ∃ LE, (tE l).length = LE := ⟨_, rfl⟩
  have mE : LE ≤ 30 := by rw [← hLE]; exact tE_len l
  rw [hLE] at hbs6 hl6 ⊢
  have B6 := hide (bmore B5.out hb6)
  have S56 := hide (S5.out.below hb6 (Nat.le_refl _))
  have hP7 := hide (fput_any e5 e6 LC d5 LE d6 (tC l) (tE l) 5 w6 (by omega) (by omega) (by omega) (by omega) S56.out hbs6)
  clear hP6 ho6 hb6 hbs6 hl6 hLE q5
  go_wp2_with fail
  refine hP7.out.mono ?_
  rintro e w7 ⟨v7, rfl, ho7, hb7⟩
  have B7 := hide (bmore B6.out hb7)
  have O7 := hide ho7
  clear hP7 ho7 hb7
  go_wp2
  go_ret
  have hcw := (Ch.of (P := fun b => b = F) AA.out).trans (C4.out.trans (Ch.of B7.out))
  have hw6 : w.heap.size ≤ w6.heap.size := Nat.le_trans (Nat.le_trans AA.out.size C4.out.size) B6.out.size
  exact ⟨_, rfl, own_base O7.out hw6, hcw, D, HLf.out.keep B7.out⟩

set_option maxRecDepth 100000 in
theorem make_bad (a : Option Addr) (n c : Nat) (l : List It) (w : World) (h : Is w a n c l) (hn : n ≤ 9223372036854775807) (hb : tme l ≠ 0) :
    Calls Tryz.prog 11 #[.slice a n c] w fun e w' => e = .returned (.tuple #[.slice none 0 0, .int .i64 (tme l)]) ∧ Below w.heap.size w w' := by
  have hc := hide (check_l a n c l w h hn)
  clear h
  obtain ⟨t, ht⟩ : ∃ t, tme l = t := ⟨_, rfl⟩
  rw [ht] at hc hb ⊢
  clear ht
  have hb2 : (t == 0) = false := by simp [hb]
  go_enter Tryz.func11, Tryz.ntmps11
  go_wp2_with (first | (go_at_call 28; refine hc.out.mono ?_; rintro e w1 ⟨rfl, hb1⟩))
  go_ret2
  exact ⟨rfl, hb1⟩
set_option maxRecDepth 100000 in
theorem make_ok (a : Option Addr) (n c : Nat) (l : List It) (w : World) (h : Is w a n c l) (hT : TOk l) (hcm : c ≤ 9223372036854775807) :
    Calls Tryz.prog 11 #[.slice a n c] w fun e w' => ∃ v, e = .returned (.tuple #[v, .int .i64 0]) ∧ Own w' w.heap.size v (tb l) ∧ Below w.heap.size w w' := by
  have hln := h.1
  have hn : n ≤ 2000 := by have := hT.len; omega
  have hc := hide (check_l a n c l w h (by omega))
  rw [hT.tme] at hc
  have hL := hide (fun W (hW : Below w.heap.size w W) => tlay_any a n c l W (h.below hW (Nat.le_refl _)) hT hcm)
  have HT := hide hT
  have HLN := hide hln
  clear h hT hln
  go_enter Tryz.func11, Tryz.ntmps11
  go_wp2_with fail
  refine hc.out.mono ?_
  rintro e w1 ⟨rfl, hb1⟩
  have B1 := hide hb1
  clear hc hb1
  go_wp2_with fail
  refine (hL.out _ B1.out).mono ?_
  rintro e w2 ⟨a1, c1, a2, c2, F, rfl, hb2, -, -, w5, hw5, hs1, hs2, ho1, ho2, hone⟩
  obtain ⟨P, hP, hPw⟩ := hone.ex
  have hFw := hPw F hP.base
  have hY := hide (pbytes_any a1 a2 n c1 c2 F P l w2 HT.out HLN.out.symm hs1 hs2 hP (fun h0 x hx e => ho1 h0 x hx (by rw [e]; exact hFw.1)) (fun h0 x hx e => ho2 h0 x hx (by rw [e]; exact hFw.1)))
  have B2 := hide (bmore B1.out hb2)
  have HFW := hide (show w.heap.size ≤ F from Nat.le_trans (Nat.le_trans B1.out.size hw5) hFw.1)
  clear hL hb2 hs1 hs2 ho1 ho2 hone hP hPw hFw
  generalize (tA l).length = LA at *
  generalize (tI l).length = LI at *
  go_wp2_with fail
  refine hY.out.mono ?_
  rintro e w3 ⟨v, rfl, ho3, hc3, -⟩
  have O3 := hide ho3
  have C3 := hide hc3
  clear hY ho3 hc3
  go_wp2
  go_ret2
  exact ⟨_, rfl, own_base O3.out B2.out.size, Clep.Below.ch B2.out C3.out B2.out.size (fun i hi => by rw [hi]; exact HFW.out)⟩

end Go.Proofs.YtodhljiboakjnaaGreat.Clep

/- What table.begin, and bytes.Equal, do when called. Conditions: at most 2^45 bytes. -/
namespace Go.Proofs.YtodhljiboakjnaaGreat.Clep
open Go.RowKit
set_option linter.unusedVariables false

theorem bequal_any (a0 a1 : Option Addr) (n0 c0 n1 c1 : Nat) (xs ys : List Int) (w : World) (h0 : Bs w a0 n0 c0 xs) (h1 : Bs w a1 n1 c1 ys) :
    Calls Tryz.prog 42 #[.slice a0 n0 c0, .slice a1 n1 c1] w fun e w' => e = .returned (.bool (decide (xs = ys))) ∧ Below w.heap.size w w' := by
  have e0 := conv_bs h0
  have e1 := conv_bs h1
  have HE := hide (str_eq xs ys (bs_range h0) (bs_range h1))
  clear h0 h1
  generalize strOfNums xs = s at *
  generalize strOfNums ys = t at *
  go_enter Tryz.func42, Tryz.ntmps42
  go_wp2
  go_ret
  exact ⟨by first | rfl | (rw [HE.out]; rfl), by first | exact Below.refl _ _ | exact (Below.refl _ _).drew⟩
theorem ownI_shape {w : World} {B : Nat} {v : Value} {l : List It} (h : OwnI w B v l) : ∃ a c, v = .slice a l.length c := by
  obtain ⟨_, ⟨rfl, hn⟩ | ⟨g, cap, cur, rfl, _⟩⟩ := h
  · exact ⟨none, 0, by rw [hn]⟩
  · exact ⟨_, _, rfl⟩
set_option maxRecDepth 100000 in
set_option maxHeartbeats 2000000 in
theorem begin_any (a : Option Addr) (n c : Nat) (X : List Int) (w : World) (h : Bs w a n c X) (hn : n ≤ 35184372088832) :
    Calls Tryz.prog 41 #[.slice a n c] w fun e w' => ∃ v, e = .returned v ∧ OwnI w' w.heap.size v (bg X) ∧ Below w.heap.size w w' := by
  have hl := h.1
  have H0 := hide (fun W (hW : Below w.heap.size w W) => h.below hW (Nat.le_refl _))
  have HB := hide (bs_range h)
  clear h
  go_enter Tryz.func41, Tryz.ntmps41
  go_wp2_with fail
  go_loopw [3, 4] (fun v p wr => ∃ (P m : Nat) (a1 : Option Addr) (c1 : Nat) (acc : List It), v = .slice a1 m c1 ∧ p = .int .i64 P ∧ P ≤ n ∧ m ≤ 2100 ∧ Hid (acc.length = m) ∧ Hid (∃ f, 2001 ≤ f + m ∧ bgs f (X.drop P) acc = bg X) ∧ Hid (OwnI wr w.heap.size (.slice a1 m c1) acc) ∧ Hid (Below w.heap.size w wr)) (fun _ p _ => n - (intOf p).toNat)
  case atStart => exact ⟨0, 0, none, 0, [], rfl, rfl, by omega, by omega, hide rfl, hide ⟨2001, by omega, rfl⟩, hide (ownI_nil _ _), hide (Below.refl _ _)⟩
  case round =>
    obtain ⟨P, m, a1, c1, acc, rfl, rfl, hP, hm, hac, hf, ho, hbl⟩ := hrel
    by_cases hle : m ≤ 2000
    · obtain ⟨Y, hY⟩ : ∃ Y, Y = X.drop P := ⟨_, rfl⟩
      have cT := hide (btake_any a n c X P wr (by omega) (H0.out _ hbl.out) hP Y hY)
      have HY := hide hY
      clear hY
      have HDN : Hid (ByteL Y) := hide (fun z hz => HB.out z (by rw [HY.out] at hz; exact List.mem_of_mem_drop hz))
      go_wp2_with fail
      refine cT.out.mono ?_
      rintro e w1 ⟨hb1, ⟨hno, rfl⟩ | ⟨hyes, v1, rfl, ho1⟩⟩
      · obtain ⟨f, hf1, hf2⟩ := hf.out
        have HR : Hid (bg X = acc) := hide (by rw [← hf2, ← HY.out]; exact bgs_stop _ _ _ (by simp [hno]))
        have O1 := hide (ownI_keep ho.out hb1)
        have B1 := hide (bmore hbl.out hb1)
        clear cT hno hf hf1 hf2 hb1
        go_wp2
        go_ret
        exact ⟨_, rfl, by rw [HR.out]; exact O1.out, B1.out⟩
      · obtain ⟨f, hf1, hf2⟩ := hf.out
        rw [← HY.out] at hf2
        obtain ⟨g, hg1, hg2, hg3⟩ := bgs_step f Y acc (by rw [hac.out]; exact hf1) (by rw [hac.out]; exact hle) hyes
        have HWX := hide (rd_wf (bo Y) (fun z hz => HDN.out z (by unfold bo bd at hz; exact List.mem_of_mem_take (List.mem_of_mem_drop (List.mem_of_mem_take hz)))))
        have hfit := fit_iff.1 (isB_fit hyes)
        obtain ⟨a7, c7, rfl, hc7, hI7, -⟩ := ownI_is ho1 (show ∀ x ∈ bx Y, x.wf from HWX.out)
        obtain ⟨n7, hn7⟩ : ∃ n7, (bx Y).length = n7 := ⟨_, rfl⟩
        rw [hn7] at hI7 hfit ⊢
        have hce := ce_ok Y (isB_iff.1 hyes).1
        have hYL : Y.length = n - P := by rw [HY.out, List.length_drop, hl]
        have hln : 0 ≤ ln Y := (ln_range Y (range_of HDN.out)).1
        obtain ⟨q, hq⟩ : ∃ q : Nat, (P : Int) + 12 + ln Y = q := ⟨P + 12 + (ln Y).toNat, by omega⟩
        have hq2 : P < q ∧ q ≤ n := by omega
        have HQ : Hid (X.drop q = Y.drop ((ln Y).toNat + 12)) := hide (by rw [HY.out, List.drop_drop]; congr 1; rw [← HY.out]; omega)
        rw [hq]
        have O1 := hide (ownI_keep ho.out hb1)
        have HS1 : Hid (w.heap.size ≤ w1.heap.size) := hide (Nat.le_trans hbl.out.size hb1.size)
        have B1 := hide (bmore hbl.out hb1)
        have HI7 := hide hI7
        have HN7 := hide hn7
        have HF : Hid (∃ f, 2001 ≤ f + (m + n7) ∧ bgs f (X.drop q) (acc ++ bx Y) = bg X) := hide ⟨g, by rw [List.length_append, hac.out, hn7] at hg3; exact hg3, by rw [HQ.out, ← hg2]; exact hf2⟩
        have hn7m : n7 ≤ 100 := hfit.2.1
        clear cT hyes hf hf1 hf2 hb1 ho1 hg1 hg2 hg3 hfit hI7 hn7 hce hYL hln hq
        go_wp2_with (first
          | (at_builtin; refine wpList_append_items rfl _ _ rfl w.heap.size _ acc rfl O1.out a7 n7 c7 (bx Y) rfl HI7.out ?c1 ?c2 ?_)
          | fail)
        case c1 => rw [hac.out]; omega
        case c2 => exact HS1.out
        intro v8 w8 ho8 hg8 hbk
        obtain ⟨a8, c8, rfl⟩ := ownI_shape ho8
        rw [show (acc ++ bx Y).length = m + n7 from by rw [List.length_append, hac.out, HN7.out]] at ho8 ⊢
        have O8 := hide ho8
        have B8 : Hid (Below w.heap.size w w8) := hide (B1.out.grown hg8 HS1.out hbk)
        clear ho8 hg8 hbk
        go_wp2
        go_roundw
        case rel => exact ⟨q, m + n7, a8, c8, acc ++ bx Y, rfl, rfl, hq2.2, by omega, hide (by rw [List.length_append, hac.out, HN7.out]), HF, O8, B8⟩
        case measure => simp [intOf]; omega
    · obtain ⟨f, hf1, hf2⟩ := hf.out
      have HR : Hid (bg X = acc) := hide (by rw [← hf2]; exact bgs_stop _ _ _ (by rw [hac.out]; omega))
      clear hf hf1 hf2
      go_wp2
      go_ret
      exact ⟨_, rfl, by rw [HR.out]; exact ho.out, hbl.out⟩
end Go.Proofs.YtodhljiboakjnaaGreat.Clep
