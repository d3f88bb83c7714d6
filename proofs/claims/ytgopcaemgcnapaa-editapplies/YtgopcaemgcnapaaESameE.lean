/- What the statements' own comparison of two Edits does when called (a walk over the translated program): for any two Edits. -/
import Derived.Test.YtgopcaemgcnapaaESame
namespace Go.Proofs.Ytgopcaemgcnapaa.Clep
open Go.RowKit
set_option linter.unusedVariables false
set_option maxRecDepth 10000

set_option maxHeartbeats 4000000 in
theorem esame_any (da aa da' aa' : Option Addr) (dn dc an ac dn' dc' an' ac' : Nat) (E F : Ed) (w : World) (h0 : Zs w da dn dc E.d) (h1 : Fs w aa an ac E.a) (h2 : Zs w da' dn' dc' F.d) (h3 : Fs w aa' an' ac' F.a) (hn : dn ≤ 9223372036854775807) (hn' : dn' ≤ 9223372036854775807) (hn2 : an ≤ 9223372036854775807) (hn2' : an' ≤ 9223372036854775807) :
    Calls Try.prog 18 #[edV da dn dc aa an ac E, edV da' dn' dc' aa' an' ac' F] w fun e w' => ∃ o, e = .returned (.bool o) ∧ (o = true ↔ E = F) ∧ Below w.heap.size w w' := by
  have hl0 := h0.1
  have hl1 := h1.1
  have hl2 := h2.1
  have hl3 := h3.1
  obtain ⟨d, l, lg, fl, ct, at9, ls⟩ := E
  obtain ⟨d', m, lg', fl', ct', at9', ls'⟩ := F
  simp only at hl0 hl1 hl2 hl3 h0 h1 h2 h3
  unfold edV
  simp only
  have H0 := hide (fun W (hW : Below w.heap.size w W) => h0.below hW (Nat.le_refl _))
  have H1 := hide (fun W (hW : Below w.heap.size w W) => h1.below hW (Nat.le_refl _))
  have H2 := hide (fun W (hW : Below w.heap.size w W) => h2.below hW (Nat.le_refl _))
  have H3 := hide (fun W (hW : Below w.heap.size w W) => h3.below hW (Nat.le_refl _))
  have HL0 := hide hl0
  have HL1 := hide hl1
  have HL2 := hide hl2
  have HL3 := hide hl3
  clear h0 h1 h2 h3 hl0 hl1 hl2 hl3
  have A0 := ((Below.refl w.heap.size w).alloc (Nat.le_refl _) (Obj.cells #[.slice da dn dc, .slice aa an ac, .int .i64 lg, .int .u64 fl, .int .u64 ct, .int .u64 at9, .int .u64 ls] 31))
  have A1 := A0.alloc (by simp) (Obj.cells #[.slice da' dn' dc', .slice aa' an' ac', .int .i64 lg', .int .u64 fl', .int .u64 ct', .int .u64 at9', .int .u64 ls'] 31)
  have HB0 := hide A1
  have hK := hide (show ∀ W, Below (w.heap.size + 2) ((w.alloc (Obj.cells #[.slice da dn dc, .slice aa an ac, .int .i64 lg, .int .u64 fl, .int .u64 ct, .int .u64 at9, .int .u64 ls] 31)).alloc (Obj.cells #[.slice da' dn' dc', .slice aa' an' ac', .int .i64 lg', .int .u64 fl', .int .u64 ct', .int .u64 at9', .int .u64 ls'] 31)) W → (W.cell? ⟨w.heap.size, 0, none⟩ = some (.slice da dn dc) ∧ W.cell? ⟨w.heap.size, 1, none⟩ = some (.slice aa an ac)) ∧ W.cell? ⟨w.heap.size + 1, 0, none⟩ = some (.slice da' dn' dc') ∧ W.cell? ⟨w.heap.size + 1, 1, none⟩ = some (.slice aa' an' ac') from fun W hW => by
    refine ⟨⟨(hW.cell (p := ⟨w.heap.size, 0, none⟩) (by show w.heap.size < w.heap.size + 2; omega)).trans (by simp [go_sem]), (hW.cell (p := ⟨w.heap.size, 1, none⟩) (by show w.heap.size < w.heap.size + 2; omega)).trans (by simp [go_sem])⟩, (hW.cell (p := ⟨w.heap.size + 1, 0, none⟩) (by show w.heap.size + 1 < w.heap.size + 2; omega)).trans (by simp [go_sem]), (hW.cell (p := ⟨w.heap.size + 1, 1, none⟩) (by show w.heap.size + 1 < w.heap.size + 2; omega)).trans (by simp [go_sem])⟩)
  clear A0 A1
  by_cases hh : lg = lg' ∧ fl = fl' ∧ ct = ct' ∧ at9 = at9' ∧ ls = ls' ∧ dn = dn' ∧ an = an'
  · obtain ⟨rfl, rfl, rfl, rfl, rfl, rfl, rfl⟩ := hh
    have q0 : (lg != lg) = false := by simp
    have q1 : (fl != fl) = false := by simp
    have q2 : (ct != ct) = false := by simp
    have q3 : (at9 != at9) = false := by simp
    have q4 : (ls != ls) = false := by simp
    have q5 : ((dn : Int) != (dn : Int)) = false := by simp
    have q6 : ((an : Int) != (an : Int)) = false := by simp
    go_enter Try.func18, Try.ntmps18
    go_wp2_with fail
    generalize hwa : (w.alloc (Obj.cells #[.slice da dn dc, .slice aa an ac, .int .i64 lg, .int .u64 fl, .int .u64 ct, .int .u64 at9, .int .u64 ls] 31)).alloc (Obj.cells #[.slice da' dn dc', .slice aa' an ac', .int .i64 lg, .int .u64 fl, .int .u64 ct, .int .u64 at9, .int .u64 ls] 31) = wa at *
    have hsa : wa.heap.size = w.heap.size + 2 := by rw [← hwa]; simp
    clear hwa
    go_loopw [5] (fun i wr => ∃ k : Nat, k ≤ dn ∧ i = .int .i64 k ∧ Hid (d.take k = d'.take k) ∧ Hid (Below (w.heap.size + 2) wa wr)) (fun i _ => dn - (intOf i).toNat)
    case atStart => exact ⟨0, by omega, rfl, hide (by simp), hide (Below.refl _ _)⟩
    case round =>
      obtain ⟨k, hk, rfl, heq, hbel0⟩ := hrel
      obtain ⟨⟨p0, p1⟩, p2, p3⟩ := hK.out wr hbel0.out
      have hBW0 : Hid (Below w.heap.size w wr) := hide (HB0.out.trans (hbel0.out.mono (by omega)))
      by_cases hlt : k < dn
      · obtain ⟨z, b, off, hz, rfl, hc, hz1, hz2⟩ := zs_at (H0.out wr hBW0.out) k hlt
        obtain ⟨z', b', off', hz', rfl, hc', hz1', hz2'⟩ := zs_at (H2.out wr hBW0.out) k hlt
        by_cases e : z = z'
        · subst e
          have HT := hide (show d.take (k + 1) = d'.take (k + 1) by rw [List.take_add_one, List.take_add_one, hz, hz', heq.out])
          have q : (z != z) = false := by simp
          clear hz hz'
          go_wp2_with fail
          go_region
          go_wp2
          go_roundw
          case rel => exact ⟨k + 1, by omega, by go_num, HT, hide hbel0.out.drew⟩
          case measure => simp [intOf]; omega
        · have hno : Hid (¬ d = d') := hide (fun h => by subst h; rw [hz] at hz'; exact e (Option.some.inj hz'))
          have q : (z != z') = true := bne_iff_ne.mpr e
          clear hz hz' e
          go_wp2_with fail
          go_region
          go_wp2
          go_ret
          exact ⟨false, rfl, by simp [hno.out], hBW0.out.drew⟩
      · obtain rfl : k = dn := by omega
        have HD : Hid (d = d') := hide (by
          have := heq.out
          rwa [show d.take k = d from by rw [← HL0.out]; exact List.take_length, show d'.take k = d' from by rw [← HL2.out]; exact List.take_length] at this)
        clear heq
        go_wp2_with fail
        go_loopw [6] (fun i wr => ∃ k : Nat, k ≤ an ∧ i = .int .i64 k ∧ Hid (l.take k = m.take k) ∧ Hid (Below (w.heap.size + 2) wa wr)) (fun i _ => an - (intOf i).toNat)
        case atStart => exact ⟨0, by omega, rfl, hide (by simp), hbel0⟩
        case round =>
          obtain ⟨j, hj, rfl, heq, hbel⟩ := hrel
          clear p0 p1 p2 p3
          obtain ⟨⟨p0, p1⟩, p2, p3⟩ := hK.out wr hbel.out
          have hBW : Hid (Below w.heap.size w wr) := hide (HB0.out.trans (hbel.out.mono (by omega)))
          by_cases hlt : j < an
          · obtain ⟨f, b0, off, hx, rfl, v0, v1, hfw⟩ := fs_at (H1.out wr hBW.out) j hlt
            obtain ⟨g, b1, off', hy, rfl, u0, u1, hgw⟩ := fs_at (H3.out wr hBW.out) j hlt
            have HX := hide hx
            have HY := hide hy
            obtain ⟨S, K⟩ := f
            obtain ⟨S', K'⟩ := g
            simp only at v0 v1 u0 u1
            have hno : Hid (¬ (S = S' ∧ K = K') → ¬ l = m) := hide (fun h e => by
              subst e
              rw [hx] at hy
              simp at hy
              exact h hy)
            clear hx hy hfw hgw
            by_cases e0 : S = S'
            · subst e0
              by_cases e1 : K = K'
              · subst e1
                go_wp2_with fail
                go_region
                go_wp2
                go_roundw
                case rel => exact ⟨j + 1, by omega, by go_num, hide (by rw [List.take_add_one, List.take_add_one, HX.out, HY.out, heq.out]), hide hbel.out.drew⟩
                case measure => simp [intOf]; omega
              · have hno2 := hide (hno.out (by simp [e1]))
                have q : (K == K') = false := by simpa using e1
                clear e1 hno
                go_wp2_with fail
                go_region
                go_wp2
                go_ret
                exact ⟨false, rfl, by simp [hno2.out], hBW.out.drew⟩
            · have hno2 := hide (hno.out (by simp [e0]))
              have q : (S == S') = false := by simpa using e0
              clear e0 hno
              go_wp2_with fail
              go_region
              go_wp2
              go_ret
              exact ⟨false, rfl, by simp [hno2.out], hBW.out.drew⟩
          · obtain rfl : j = an := by omega
            have HE := hide (show l = m by
              have := heq.out
              rwa [show l.take j = l from by rw [← HL1.out]; exact List.take_length, show m.take j = m from by rw [← HL3.out]; exact List.take_length] at this)
            go_wp2
            go_ret
            exact ⟨true, rfl, by simp [HE.out, HD.out], hBW.out⟩
  · have hno : Hid (¬ (Ed.mk d l lg fl ct at9 ls = Ed.mk d' m lg' fl' ct' at9' ls')) := hide (fun e => by
      injection e with e1 e2 e3 e4 e5 e6 e7
      exact hh ⟨e3, e4, e5, e6, e7, by rw [← HL0.out, ← HL2.out, e1], by rw [← HL1.out, ← HL3.out, e2]⟩)
    clear hK H0 H1 H2 H3
    rcases (show (lg ≠ lg') ∨ (lg = lg' ∧ fl ≠ fl') ∨ (lg = lg' ∧ fl = fl' ∧ ct ≠ ct') ∨ (lg = lg' ∧ fl = fl' ∧ ct = ct' ∧ at9 ≠ at9') ∨ (lg = lg' ∧ fl = fl' ∧ ct = ct' ∧ at9 = at9' ∧ ls ≠ ls') ∨ (lg = lg' ∧ fl = fl' ∧ ct = ct' ∧ at9 = at9' ∧ ls = ls' ∧ ((dn : Int) ≠ (dn' : Int))) ∨ (lg = lg' ∧ fl = fl' ∧ ct = ct' ∧ at9 = at9' ∧ ls = ls' ∧ dn = dn' ∧ ((an : Int) ≠ (an' : Int))) by omega) with h | ⟨rfl, h⟩ | ⟨rfl, rfl, h⟩ | ⟨rfl, rfl, rfl, h⟩ | ⟨rfl, rfl, rfl, rfl, h⟩ | ⟨rfl, rfl, rfl, rfl, rfl, h⟩ | ⟨rfl, rfl, rfl, rfl, rfl, rfl, h⟩
    all_goals
      clear hh HL0 HL1 HL2 HL3
      have q := bne_iff_ne.mpr h
      clear h
      have q0 : (lg != lg) = false := by simp
      have q1 : (fl != fl) = false := by simp
      have q2 : (ct != ct) = false := by simp
      have q3 : (at9 != at9) = false := by simp
      have q4 : (ls != ls) = false := by simp
      have q5 : ((dn : Int) != (dn : Int)) = false := by simp
      go_enter Try.func18, Try.ntmps18
      go_wp2
      go_ret
      exact ⟨false, rfl, by simp only [hno.out, Bool.false_eq_true], HB0.out⟩

theorem few_any (da aa : Option Addr) (dn dc an ac : Nat) (E : Ed) (w : World) (hn : dn ≤ 9223372036854775807) (hn2 : an ≤ 9223372036854775807) :
    Calls Try.prog 14 #[edV da dn dc aa an ac E] w fun e w' => e = .returned (.bool (decide (dn ≤ 60 ∧ an ≤ 60))) ∧ Below w.heap.size w w' := by
  have HB := hide ((Below.refl _ w).alloc (Nat.le_refl _) (Obj.cells #[.slice da dn dc, .slice aa an ac, .int .i64 E.lg, .int .u64 E.fl, .int .u64 E.ct, .int .u64 E.at9, .int .u64 E.ls] 31))
  unfold edV
  obtain ⟨O, hO⟩ : ∃ O, decide (dn ≤ 60 ∧ an ≤ 60) = O := ⟨_, rfl⟩
  rw [hO]
  rcases (show (dn ≤ 60 ∧ an ≤ 60) ∨ (60 < dn) ∨ (dn ≤ 60 ∧ 60 < an) by omega) with h | h | h
  · obtain rfl : O = true := by rw [← hO]; exact decide_eq_true h
    clear hO
    have g1 : (dn : Int) ≤ 60 := by omega
    have g2 : (an : Int) ≤ 60 := by omega
    go_enter Try.func14, Try.ntmps14
    go_wp2
    go_ret
    exact ⟨rfl, HB.out⟩
  · obtain rfl : O = false := by rw [← hO]; exact decide_eq_false (by omega)
    clear hO
    have g1 : ¬ ((dn : Int) ≤ 60) := by omega
    go_enter Try.func14, Try.ntmps14
    go_wp2
    go_ret
    exact ⟨rfl, HB.out⟩
  · obtain rfl : O = false := by rw [← hO]; exact decide_eq_false (by omega)
    clear hO
    have g1 : (dn : Int) ≤ 60 := by omega
    have g2 : ¬ ((an : Int) ≤ 60) := by omega
    go_enter Try.func14, Try.ntmps14
    go_wp2
    go_ret
    exact ⟨rfl, HB.out⟩

end Go.Proofs.Ytgopcaemgcnapaa.Clep
