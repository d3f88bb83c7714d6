/- MemJoins: batches one by one, or all at once, come to the same, walked. Conditions: the table of math/bits reads as its initialiser lays it. -/
import Derived.Test.YtjpoahnecbefaaaDoorMTwo
namespace Go.Proofs.YtjpoahnecbefaaaDoor.Clep
open Go.RowKit
set_option linter.unusedVariables false

theorem applyE_ok {l : List It} (h : l.all It.ok = true) : applyE false l = 0 := by unfold applyE; rw [h]; rfl
theorem applyE_bad {l : List It} (h : l.all It.ok = false) : applyE false l = 1 := by unfold applyE; rw [h]; rfl
theorem applyW_ok {l : List It} (h : l.all It.ok = true) (ws : List (It × Nat)) : applyW false l ws = putAll l ws := by unfold applyW; rw [h]; rfl

set_option maxRecDepth 100000 in
set_option maxHeartbeats 4000000 in
theorem joins_any (a0 : Option Addr) (n0 c0 : Nat) (la : List It) (a1 : Option Addr) (n1 c1 : Nat) (lb : List It) (w : World) (h : Is w a0 n0 c0 la) (h' : Is w a1 n1 c1 lb) (hm : n0 ≤ 9223372036854775807) (hm' : n1 ≤ 9223372036854775807) (hTb : Tab w) :
    Calls Tryd.prog 6 #[.slice a0 n0 c0, .slice a1 n1 c1] w fun e w' => e = .returned (.bool true) ∧ Below w.heap.size w w' := by
  have hla := hide h.1
  have hlb := hide h'.1
  have WFa := hide h.2.2.1
  have WFb := hide h'.2.2.1
  have HA0 := hide (fun W (hW : Below w.heap.size w W) => h.below hW (Nat.le_refl _))
  have HB0 := hide (fun W (hW : Below w.heap.size w W) => h'.below hW (Nat.le_refl _))
  have ha0 := hide (show 0 < n0 → ∀ x, a0 = some x → x.block < w.heap.size from fun hp x hx => by
    obtain ⟨b, off, e, hc⟩ := h.2.2.2 hp
    obtain ⟨y, hy⟩ : ∃ y, la[0]? = some y := ⟨_, List.getElem?_eq_getElem (by rw [h.1]; exact hp)⟩
    rw [e] at hx; cases hx
    exact (hc 0 y hy).lt)
  have ha1 := hide (show 0 < n1 → ∀ x, a1 = some x → x.block < w.heap.size from fun hp x hx => by
    obtain ⟨b, off, e, hc⟩ := h'.2.2.2 hp
    obtain ⟨y, hy⟩ : ∃ y, lb[0]? = some y := ⟨_, List.getElem?_eq_getElem (by rw [h'.1]; exact hp)⟩
    rw [e] at hx; cases hx
    exact (hc 0 y hy).lt)
  have T0 := hide hTb
  have AW := hide (mawake_any w hTb)
  clear h h' hTb
  by_cases hsz : 60 < n0
  · have hd0 : (60 : Int) < (n0 : Int) := by omega
    have hd1 : decide ((60 : Int) < (n0 : Int)) = true := by simp; omega
    go_enter Tryd.func6, Tryd.ntmps6
    go_wp2_with fail
    refine AW.out.mono ?_
    rintro e w1 ⟨rfl, b1⟩
    have B1 := hide b1
    clear b1
    go_wp2
    go_ret
    exact ⟨rfl, B1.out⟩
  by_cases hsz' : 60 < n1
  · have hd0 : ¬ (60 : Int) < (n0 : Int) := by omega
    have hd1 : decide ((60 : Int) < (n0 : Int)) = false := by simp; omega
    have hd2 : (60 : Int) < (n1 : Int) := by omega
    have hd3 : decide ((60 : Int) < (n1 : Int)) = true := by simp; omega
    go_enter Tryd.func6, Tryd.ntmps6
    go_wp2_with fail
    refine AW.out.mono ?_
    rintro e w1 ⟨rfl, b1⟩
    have B1 := hide b1
    clear b1
    go_wp2
    go_ret
    exact ⟨rfl, B1.out⟩
  have hd0 : ¬ (60 : Int) < (n0 : Int) := by omega
  have hd1 : decide ((60 : Int) < (n0 : Int)) = false := by simp; omega
  have hd2 : ¬ (60 : Int) < (n1 : Int) := by omega
  have hd3 : decide ((60 : Int) < (n1 : Int)) = false := by simp; omega
  have hn0 : n0 ≤ 60 := by omega
  have hn1 : n1 ≤ 60 := by omega
  clear hsz hsz' AW
  go_enter Tryd.func6, Tryd.ntmps6
  go_wp2_with fail
  refine (mnew_h w).mono ?_
  rintro e w1 ⟨X, rfl, x1, b1⟩
  have HX1 := hide x1
  have B1 := hide b1
  clear x1 b1 hd0 hd1 hd2 hd3
  go_wp2_with fail
  refine (mnew_h w1).mono ?_
  rintro e w2 ⟨Y, rfl, y2, b2⟩
  have T2 : Hid (Two w w2 X Y [] []) := hide ⟨⟨_, _, HX1.out.keep b2, y2, fun b e1 e2 => by omega, fun b e => e.1, fun b e => by have := B1.out.size; omega⟩, bmore B1.out b2, (T0.out.keep B1.out).keep b2, T0.out.lt⟩
  have C2 := hide (two_apply w w2 X Y [] [] T2.out a0 n0 c0 la (HA0.out _ T2.out.bel) (by omega) (by simp) (fun hp x hx => .inl (ha0.out hp x hx)))
  obtain ⟨E1, hE1⟩ : ∃ E, applyE false la = E := ⟨_, rfl⟩
  rw [hE1] at C2
  obtain ⟨W1, hW1⟩ : ∃ W, applyW false la [] = W := ⟨_, rfl⟩
  rw [hW1] at C2
  have HE1 := hide hE1
  have HW1 := hide hW1
  have hl1 := hide (show W1.length ≤ 60 by have := applyW_len false la []; rw [hW1, hla.out, List.length_nil] at this; omega)
  clear y2 b2 HX1 B1 hE1 hW1
  go_wp2_with fail
  refine C2.out.mono ?_
  rintro e w3 ⟨rfl, t3⟩
  have T3 := hide t3
  have C3 := hide (two_apply w w3 X Y W1 [] t3 a1 n1 c1 lb (HB0.out _ t3.bel) (by omega) (by have := hl1.out; omega) (fun hp x hx => .inl (ha1.out hp x hx)))
  obtain ⟨E2, hE2⟩ : ∃ E, applyE false lb = E := ⟨_, rfl⟩
  rw [hE2] at C3
  obtain ⟨W2, hW2⟩ : ∃ W, applyW false lb W1 = W := ⟨_, rfl⟩
  rw [hW2] at C3
  have HE2 := hide hE2
  have HW2 := hide hW2
  have hl2 := hide (show W2.length ≤ 120 by have := applyW_len false lb W1; have := hl1.out; rw [hW2, hlb.out] at *; omega)
  clear t3 C2 hE2 hW2
  go_wp2_with fail
  refine C3.out.mono ?_
  rintro e w4 ⟨rfl, t4⟩
  have T4 := hide t4
  have a5 := (Below.refl _ w4).alloc (Nat.le_refl _) (Obj.cells #[] 32)
  have k5 := hpS w4 (Obj.cells #[] 32) w4.heap.size rfl
  have O5 := hide (ownI_empty k5 (Nat.le_refl w4.heap.size))
  have I5 := hide (HB0.out _ (bmore t4.bel a5))
  have A5 := hide a5
  have BW4 := hide t4.bel
  have hLb := hide (show ([] : List It).length + n1 ≤ 1099511627776 by simp; omega)
  have hLa := hide (show (([] : List It) ++ lb).length + n0 ≤ 1099511627776 by rw [List.nil_append, hlb.out]; omega)
  clear a5 k5 t4 C3
  go_wp2_with (first
    | (at_builtin; refine wpList_append_items rfl _ _ rfl w4.heap.size _ [] rfl O5.out a1 n1 c1 lb rfl I5.out hLb.out A5.out.size ?_; intro v6 w6 o6 g6 k6; have B6 := hide (A5.out.grown g6 A5.out.size k6); have O6 := hide o6; have I6 := hide (HA0.out _ (bmore BW4.out B6.out)); clear o6 g6 k6)
    | (at_builtin; refine wpList_append_items rfl _ _ rfl w4.heap.size v6 ([] ++ lb) rfl O6.out a0 n0 c0 la rfl I6.out hLa.out B6.out.size ?_; intro v7 w7 o7 g7 k7))
  have B7 := hide (B6.out.grown g7 B6.out.size k7)
  rw [List.nil_append] at o7
  obtain ⟨a7, c7, rfl, hc7, is7, hb7⟩ := ownI_is o7 (fun x hx => by rcases List.mem_append.1 hx with e | e; exact WFb.out x e; exact WFa.out x e)
  obtain ⟨N, hN⟩ : ∃ N, (lb ++ la).length = N := ⟨_, rfl⟩
  rw [hN] at is7 ⊢
  have hN120 : N ≤ 120 := by rw [← hN, List.length_append, hla.out, hlb.out]; omega
  have T7 := hide (T4.out.swap.keep B7.out)
  have C7 := hide (two_apply w w7 Y X [] W2 T7.out a7 N c7 (lb ++ la) is7 (by omega) (by simp) (fun hp x hx => .inr ⟨w4, T4.out.swap, B7.out, hb7 x hx⟩))
  obtain ⟨E3, hE3⟩ : ∃ E, applyE false (lb ++ la) = E := ⟨_, rfl⟩
  rw [hE3] at C7
  obtain ⟨W3, hW3⟩ : ∃ W, applyW false (lb ++ la) [] = W := ⟨_, rfl⟩
  rw [hW3] at C7
  have HE3 := hide hE3
  have HW3 := hide hW3
  have hl3 := hide (show W3.length ≤ 120 by have := applyW_len false (lb ++ la) []; rw [hW3, hN, List.length_nil] at this; omega)
  clear o7 g7 k7 is7 hb7 hc7 hE3 hW3 hN O5 I5 A5 O6 I6 B6
  refine C7.out.mono ?_
  rintro e w8 ⟨rfl, t8⟩
  have T8 := hide t8
  have AW := hide (mawake_any w8 t8.tab)
  clear t8 C7
  cases hoa : la.all It.ok with
  | false =>
    obtain rfl : E1 = 1 := by rw [← HE1.out]; exact applyE_bad hoa
    obtain rfl : E3 = 1 := by rw [← HE3.out]; exact applyE_bad (by rw [List.all_append, hoa, Bool.and_false])
    clear hoa
    go_wp2_with fail
    refine AW.out.mono ?_
    rintro e w9 ⟨rfl, b9⟩
    have B9 := hide (bmore T8.out.bel b9)
    clear b9
    go_wp2
    go_ret
    exact ⟨rfl, B9.out⟩
  | true =>
    cases hob : lb.all It.ok with
    | false =>
      obtain rfl : E1 = 0 := by rw [← HE1.out]; exact applyE_ok hoa
      obtain rfl : E2 = 1 := by rw [← HE2.out]; exact applyE_bad hob
      obtain rfl : E3 = 1 := by rw [← HE3.out]; exact applyE_bad (by rw [List.all_append, hob, Bool.false_and])
      clear hoa hob
      go_wp2_with fail
      refine AW.out.mono ?_
      rintro e w9 ⟨rfl, b9⟩
      have B9 := hide (bmore T8.out.bel b9)
      clear b9
      go_wp2
      go_ret
      exact ⟨rfl, B9.out⟩
    | true =>
      obtain rfl : E1 = 0 := by rw [← HE1.out]; exact applyE_ok hoa
      obtain rfl : E2 = 0 := by rw [← HE2.out]; exact applyE_ok hob
      obtain rfl : E3 = 0 := by rw [← HE3.out]; exact applyE_ok (by rw [List.all_append, hoa, hob]; rfl)
      have C8 := hide (two_apply w w8 Y X W3 W2 T8.out a0 n0 c0 la (HA0.out _ T8.out.bel) (by omega) (by have := hl3.out; omega) (fun hp x hx => .inl (ha0.out hp x hx)))
      rw [applyE_ok hoa] at C8
      obtain ⟨W4, hW4⟩ : ∃ W, applyW false la W3 = W := ⟨_, rfl⟩
      rw [hW4] at C8
      have hl4 := hide (show W4.length ≤ 180 by have := applyW_len false la W3; have := hl3.out; rw [hW4, hla.out] at *; omega)
      have HSM := hide (show W2.map Prod.fst = W4.map Prod.fst by
        rw [← hW4, applyW_ok hoa, ← HW3.out, applyW_ok (by rw [List.all_append, hoa, hob]; rfl), ← HW2.out, applyW_ok hob, ← HW1.out, applyW_ok hoa]
        exact joins_same la lb)
      clear hoa hob hW4
      go_wp2_with fail
      refine C8.out.mono ?_
      rintro e w9 ⟨rfl, t9⟩
      have T9 := hide t9
      obtain ⟨m, hm9⟩ : ∃ m, W2.map Prod.fst = m := ⟨_, rfl⟩
      have hmn : m.length ≤ 120 := by rw [← hm9, List.length_map]; exact hl2.out
      have C9 := hide (two_items w w9 X Y W2 W4 t9.swap (by have := hl2.out; omega) m hm9)
      have HM9 := hide hm9
      obtain ⟨n, hn⟩ : ∃ n, m.length = n := ⟨_, rfl⟩
      have HN9 := hide hn
      rw [hn] at hmn
      clear t9 C8 hm9 hn
      go_wp2_with fail
      refine C9.out.mono ?_
      rintro e w10 ⟨a10, c10, rfl, i10, _, b10, _⟩
      rw [HN9.out] at i10 ⊢
      have I10 := hide (fun W (hW : Below w10.heap.size w10 W) => i10.below hW (Nat.le_refl _))
      have T10 := hide (T9.out.keep b10)
      have C10 := hide (two_items w w10 Y X W4 W2 T10.out (by have := hl4.out; omega) m (HSM.out.symm.trans HM9.out))
      clear i10 b10 C9
      go_wp2_with fail
      refine C10.out.mono ?_
      rintro e w11 ⟨a11, c11, rfl, i11, _, b11, _⟩
      rw [HN9.out] at i11 ⊢
      have T11 := hide (T10.out.keep b11)
      have CE := hide (refequal_any a10 a11 n c10 n c11 m m w11 (I10.out _ b11) i11 (by omega) (by omega))
      clear i11 b11 C10
      go_wp2_with fail
      refine CE.out.mono ?_
      rintro e w12 ⟨o, rfl, ho, b12⟩
      obtain rfl : o = true := by simpa using ho
      have T12 := hide (T11.out.keep b12)
      have AW2 := hide (mawake_any w12 T12.out.tab)
      clear ho b12 CE
      go_wp2_with fail
      refine AW2.out.mono ?_
      rintro e w13 ⟨rfl, b13⟩
      have B13 := hide (bmore T12.out.bel b13)
      clear b13
      go_wp2
      go_ret
      exact ⟨rfl, B13.out⟩

end Go.Proofs.YtjpoahnecbefaaaDoor.Clep
