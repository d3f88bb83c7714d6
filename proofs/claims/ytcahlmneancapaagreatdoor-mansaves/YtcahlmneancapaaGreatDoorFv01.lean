/- What the document's own fileOk and EditMay do when called (walks over the translated program): for any File, any Edit. -/
import Derived.Test.YtcahlmneancapaaGreatDoorFv00
namespace Go.Proofs.YtcahlmneancapaaGreatDoor.Clep
open Go.RowKit
set_option linter.unusedVariables false
set_option maxRecDepth 10000

theorem fileok_any (L N : Int) (w : World) :
    Calls Tryz.prog 58 #[.agg #[.int .i64 L, .int .i64 N]] w fun e w' => e = .returned (.bool (Fi.ok ⟨L, N⟩)) ∧ Below w.heap.size w w' := by
  have HB := hide ((Below.refl _ w).alloc (Nat.le_refl _) (Obj.cells #[.int .i64 L, .int .i64 N] 99))
  have HO := hide (show Fi.ok ⟨L, N⟩ = decide (0 ≤ L ∧ L ≤ 3 ∧ 1 ≤ N ∧ N ≤ 1073741824) from rfl)
  generalize Fi.ok ⟨L, N⟩ = O at *
  rcases (show (0 ≤ L ∧ L ≤ 3 ∧ 1 ≤ N ∧ N ≤ 1073741824) ∨ ¬ (0 ≤ L) ∨ (0 ≤ L ∧ ¬ (L ≤ 3)) ∨ (0 ≤ L ∧ L ≤ 3 ∧ ¬ (1 ≤ N)) ∨ (0 ≤ L ∧ L ≤ 3 ∧ 1 ≤ N ∧ ¬ (N ≤ 1073741824)) by omega) with h | h | h | h | h
  · obtain rfl : O = true := by rw [HO.out]; exact decide_eq_true h
    obtain ⟨h1, h2, h3, h4⟩ := h
    go_enter Tryz.func58, Tryz.ntmps58
    go_wp2
    go_ret
    exact ⟨rfl, HB.out⟩
  · obtain rfl : O = false := by rw [HO.out]; exact decide_eq_false (by omega)
    go_enter Tryz.func58, Tryz.ntmps58
    go_wp2
    go_ret
    exact ⟨rfl, HB.out⟩
  · obtain rfl : O = false := by rw [HO.out]; exact decide_eq_false (by omega)
    obtain ⟨h1, h2⟩ := h
    go_enter Tryz.func58, Tryz.ntmps58
    go_wp2
    go_ret
    exact ⟨rfl, HB.out⟩
  · obtain rfl : O = false := by rw [HO.out]; exact decide_eq_false (by omega)
    obtain ⟨h1, h2, h3⟩ := h
    go_enter Tryz.func58, Tryz.ntmps58
    go_wp2
    go_ret
    exact ⟨rfl, HB.out⟩
  · obtain rfl : O = false := by rw [HO.out]; exact decide_eq_false (by omega)
    obtain ⟨h1, h2, h3, h4⟩ := h
    go_enter Tryz.func58, Tryz.ntmps58
    go_wp2
    go_ret
    exact ⟨rfl, HB.out⟩

theorem emay_no {E : Ed} (h : edH E = false ∨ E.d.all okN = false ∨ E.a.all Fi.ok = false) : emay E = 1 := by
  unfold emay
  rw [if_neg]
  rcases h with h | h | h <;> rw [h] <;> simp
theorem all_bad {α : Type} {p : α → Bool} {l : List α} {k : Nat} {x : α} (h : l[k]? = some x) (hx : p x = false) : l.all p = false := by
  rw [Bool.eq_false_iff]
  intro e
  rw [List.all_eq_true] at e
  rw [e x (List.mem_of_getElem? h)] at hx
  cases hx
theorem all_more {α : Type} {p : α → Bool} {l : List α} {k : Nat} {x : α} (h : l[k]? = some x) (hx : p x = true) (ht : (l.take k).all p = true) : (l.take (k + 1)).all p = true := by
  rw [List.take_add_one, h, List.all_append, ht]
  simpa using hx

set_option maxHeartbeats 1000000 in
theorem editmay_any (da : Option Addr) (dn dc : Nat) (aa : Option Addr) (an ac : Nat) (E : Ed) (w : World) (hd : Zs w da dn dc E.d) (ha : Fs w aa an ac E.a) (hdn : dn ≤ 9223372036854775807) (han : an ≤ 9223372036854775807) :
    Calls Tryz.prog 27 #[edV da dn dc aa an ac E] w fun e w' => e = .returned (.int .i64 (emay E)) ∧ Below w.heap.size w w' := by
  have hld := hd.1
  have hla := ha.1
  have HD := hide (fun W (hW : Below w.heap.size w W) => hd.below hW (Nat.le_refl _))
  have HA := hide (fun W (hW : Below w.heap.size w W) => ha.below hW (Nat.le_refl _))
  have HNO := hide (@emay_no E)
  have HYES := hide (show edH E = true → E.d.all okN = true → E.a.all Fi.ok = true → emay E = 0 from fun h1 h2 h3 => by unfold emay; rw [h1, h2, h3]; simp)
  have HH := hide (show edH E = decide (E.d.length ≤ 40 ∧ E.a.length ≤ 40 ∧ 0 ≤ E.lg ∧ E.lg ≤ 1073741824 ∧ E.fl ≤ 281474976710656 ∧ E.ct ≤ 281474976710656 ∧ E.at9 ≤ 281474976710656 ∧ E.ls ≤ 281474976710656) from rfl)
  generalize emay E = M at *
  obtain ⟨d, a, lg, fl, ct, at9, ls⟩ := E
  simp only at hld hla HH HD HA HNO HYES
  unfold edV
  simp only
  rw [hld, hla] at HH
  generalize edH ⟨d, a, lg, fl, ct, at9, ls⟩ = H at *
  have A0 := (Below.refl w.heap.size w).alloc (Nat.le_refl _) (Obj.cells #[.slice da dn dc, .slice aa an ac, .int .i64 lg, .int .u64 fl, .int .u64 ct, .int .u64 at9, .int .u64 ls] 34)
  have HB0 := hide A0
  have hK := hide (show ∀ W, Below (w.heap.size + 1) (w.alloc (Obj.cells #[.slice da dn dc, .slice aa an ac, .int .i64 lg, .int .u64 fl, .int .u64 ct, .int .u64 at9, .int .u64 ls] 34)) W → W.cell? ⟨w.heap.size, 0, none⟩ = some (.slice da dn dc) ∧ W.cell? ⟨w.heap.size, 1, none⟩ = some (.slice aa an ac) from fun W hW => by
    refine ⟨(hW.cell (p := ⟨w.heap.size, 0, none⟩) (by show w.heap.size < w.heap.size + 1; omega)).trans (by simp [go_sem]), (hW.cell (p := ⟨w.heap.size, 1, none⟩) (by show w.heap.size < w.heap.size + 1; omega)).trans (by simp [go_sem])⟩)
  clear A0 hd ha
  by_cases hh : dn ≤ 40 ∧ an ≤ 40 ∧ 0 ≤ lg ∧ lg ≤ 1073741824 ∧ fl ≤ 281474976710656 ∧ ct ≤ 281474976710656 ∧ at9 ≤ 281474976710656 ∧ ls ≤ 281474976710656
  · have hH : H = true := by rw [HH.out]; exact decide_eq_true hh
    subst hH
    obtain ⟨h1, h2, h3, h4, h5, h6, h7, h8⟩ := hh
    have g1 : (dn : Int) ≤ 40 := by omega
    have g2 : (an : Int) ≤ 40 := by omega
    clear HH
    go_enter Tryz.func27, Tryz.ntmps27
    go_wp2_with fail
    generalize hwa : w.alloc (Obj.cells #[.slice da dn dc, .slice aa an ac, .int .i64 lg, .int .u64 fl, .int .u64 ct, .int .u64 at9, .int .u64 ls] 34) = wa at *
    have hsa : wa.heap.size = w.heap.size + 1 := by rw [← hwa]; simp
    clear hwa
    have hk0 := hK.out wa (Below.refl _ _)
    have hZ0 := hide (HD.out wa HB0.out)
    go_loop [3] (fun i => ∃ k : Nat, k ≤ dn ∧ i = .int .i64 k ∧ Hid ((d.take k).all okN = true)) (fun i => dn - (intOf i).toNat)
    case atStart => exact ⟨0, by omega, rfl, hide (by simp)⟩
    case round =>
      obtain ⟨k, hk, rfl, hall⟩ := hrel
      obtain ⟨q0, q1⟩ := hk0
      by_cases hlt : k < dn
      · obtain ⟨z, b, off, hz, rfl, hc, hz1, hz2⟩ := zs_at hZ0.out k hlt
        by_cases hok : 1 ≤ z ∧ z ≤ 1073741824
        · have HT := hide (all_more hz (show okN z = true from decide_eq_true hok) hall.out)
          obtain ⟨o1, o2⟩ := hok
          have o1' : ¬ (z < 1) := by omega
          have o2' : ¬ (1073741824 < z) := by omega
          clear hz
          go_wp2
          go_round
          case rel => exact ⟨k + 1, by omega, by go_num, HT⟩
          case measure => simp [intOf]; omega
        · have hM : M = 1 := HNO.out (.inr (.inl (all_bad hz (show okN z = false from decide_eq_false hok))))
          subst hM
          clear hz HNO HYES
          rcases (show z < 1 ∨ (¬ (z < 1) ∧ 1073741824 < z) by omega) with o1 | ⟨o1, o2⟩
          · go_wp2
            go_ret
            exact ⟨rfl, HB0.out⟩
          · go_wp2
            go_ret
            exact ⟨rfl, HB0.out⟩
      · obtain rfl : k = dn := by omega
        have hdall : Hid (d.all okN = true) := hide (by have := hall.out; rwa [List.take_of_length_le (by omega)] at this)
        clear hall
        go_wp2_with fail
        go_loopw [4] (fun i wr => ∃ j : Nat, j ≤ an ∧ i = .int .i64 j ∧ Hid ((a.take j).all Fi.ok = true) ∧ Hid (Below (w.heap.size + 1) wa wr)) (fun i _ => an - (intOf i).toNat)
        case atStart => exact ⟨0, by omega, rfl, hide (by simp), hide (Below.refl _ _)⟩
        case round =>
          obtain ⟨j, hj, rfl, hall, hbel⟩ := hrel
          obtain ⟨r0, r1⟩ := hK.out wr hbel.out
          have hBW : Hid (Below w.heap.size w wr) := hide (HB0.out.trans (hbel.out.mono (by omega)))
          by_cases hlt2 : j < an
          · obtain ⟨f, b, off, hf, rfl, c0, c1, hfw⟩ := fs_at (HA.out wr hBW.out) j hlt2
            obtain ⟨fL, fN⟩ := f
            simp only at c0 c1
            have FK := hide (fileok_any fL fN wr)
            obtain ⟨o, ho⟩ : ∃ o, Fi.ok ⟨fL, fN⟩ = o := ⟨_, rfl⟩
            rw [ho] at FK
            have HBD := hide (show o = false → M = 1 from fun e => HNO.out (.inr (.inr (all_bad hf (by rw [ho, e])))))
            have HTD := hide (show o = true → (a.take (j + 1)).all Fi.ok = true from fun e => all_more hf (by rw [ho, e]) hall.out)
            clear hf ho q0 q1
            go_wp2_with fail
            refine FK.out.mono ?_
            rintro e w1 ⟨rfl, hb1⟩
            have HB1 := hide (hbel.out.trans (hb1.mono (by have := hbel.out.size; omega)))
            have HB2 := hide (hBW.out.trans (hb1.mono hBW.out.size))
            clear hb1 FK c0 c1 r0 r1
            cases o with
            | false =>
              obtain rfl : M = 1 := HBD.out (by first | rfl | trivial)
              clear HBD HTD HNO HYES
              go_wp2
              go_ret
              exact ⟨rfl, HB2.out⟩
            | true =>
              have HT := hide (HTD.out (by first | rfl | trivial))
              clear HBD HTD
              go_wp2
              go_roundw
              case rel => exact ⟨j + 1, by omega, by go_num, HT, HB1⟩
              case measure => simp [intOf]; omega
          · obtain rfl : j = an := by omega
            have haall : a.all Fi.ok = true := by have := hall.out; rwa [List.take_of_length_le (by omega)] at this
            obtain rfl : M = 0 := HYES.out (by first | rfl | trivial) hdall.out haall
            clear haall hall HNO HYES q0 q1
            go_wp2
            go_ret
            exact ⟨rfl, hBW.out⟩
  · have hH : H = false := by rw [HH.out]; exact decide_eq_false hh
    obtain rfl : M = 1 := HNO.out (.inl (by rw [hH]))
    clear HNO HYES HH hH HD HA hK
    rcases (show 40 < dn ∨ (dn ≤ 40 ∧ 40 < an) ∨ (dn ≤ 40 ∧ an ≤ 40 ∧ lg < 0) ∨ (dn ≤ 40 ∧ an ≤ 40 ∧ ¬ (lg < 0) ∧ 1073741824 < lg) ∨ (dn ≤ 40 ∧ an ≤ 40 ∧ ¬ (lg < 0) ∧ ¬ (1073741824 < lg) ∧ 281474976710656 < fl) ∨
      (dn ≤ 40 ∧ an ≤ 40 ∧ ¬ (lg < 0) ∧ ¬ (1073741824 < lg) ∧ ¬ (281474976710656 < fl) ∧ 281474976710656 < ct) ∨ (dn ≤ 40 ∧ an ≤ 40 ∧ ¬ (lg < 0) ∧ ¬ (1073741824 < lg) ∧ ¬ (281474976710656 < fl) ∧ ¬ (281474976710656 < ct) ∧ 281474976710656 < at9) ∨
      (dn ≤ 40 ∧ an ≤ 40 ∧ ¬ (lg < 0) ∧ ¬ (1073741824 < lg) ∧ ¬ (281474976710656 < fl) ∧ ¬ (281474976710656 < ct) ∧ ¬ (281474976710656 < at9) ∧ 281474976710656 < ls) by omega) with h | ⟨h1, h⟩ | ⟨h1, h2, h⟩ | ⟨h1, h2, h3, h⟩ | ⟨h1, h2, h3, h4, h⟩ | ⟨h1, h2, h3, h4, h5, h⟩ | ⟨h1, h2, h3, h4, h5, h6, h⟩ | ⟨h1, h2, h3, h4, h5, h6, h7, h⟩
    all_goals
      clear hh
      try (have g1 : (dn : Int) ≤ 40 := by omega)
      try (have g2 : (an : Int) ≤ 40 := by omega)
      try (have g3 : (40 : Int) < (dn : Int) := by omega)
      try (have g4 : (40 : Int) < (an : Int) := by omega)
      go_enter Tryz.func27, Tryz.ntmps27
      go_wp2
      go_ret
      exact ⟨rfl, HB0.out⟩

end Go.Proofs.YtcahlmneancapaaGreatDoor.Clep
