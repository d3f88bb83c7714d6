/- What the document's own SameView does when called (a walk over the translated program): for any two Views. -/
import Derived.Test.YtgopcaemgcnapaaEMay
import Derived.Laws.StructEq
import Derived.BigRegion
namespace Go.Proofs.Ytgopcaemgcnapaa.Clep
open Go.RowKit
set_option linter.unusedVariables false
set_option maxRecDepth 10000

set_option maxHeartbeats 2000000 in
theorem sameview_any (a b : Option Addr) (n c n' c' : Nat) (A B : Vw) (w : World) (h0 : Fs w a n c A.f) (h1 : Fs w b n' c' B.f) (hn : n ≤ 9223372036854775807) (hn' : n' ≤ 9223372036854775807) :
    Calls Try.prog 12 #[vwV a n c A, vwV b n' c' B] w fun e w' => ∃ o, e = .returned (.bool o) ∧ (o = true ↔ A = B) ∧ Below w.heap.size w w' := by
  have hl := h0.1
  have hl' := h1.1
  obtain ⟨lg, l, fl, ct, at9, ls⟩ := A
  obtain ⟨lg', m, fl', ct', at9', ls'⟩ := B
  simp only at hl hl' h0 h1
  unfold vwV
  simp only
  have H0 := hide (fun W (hW : Below w.heap.size w W) => h0.below hW (Nat.le_refl _))
  have H1 := hide (fun W (hW : Below w.heap.size w W) => h1.below hW (Nat.le_refl _))
  have HL := hide hl
  have HL' := hide hl'
  clear h0 h1
  have A0 := ((Below.refl w.heap.size w).alloc (Nat.le_refl _) (Obj.cells #[.int .i64 lg, .slice a n c, .int .u64 fl, .int .u64 ct, .int .u64 at9, .int .u64 ls] 26))
  have A1 := A0.alloc (by simp) (Obj.cells #[.int .i64 lg', .slice b n' c', .int .u64 fl', .int .u64 ct', .int .u64 at9', .int .u64 ls'] 26)
  have HB0 := hide A1
  have hK := hide (show ∀ W, Below (w.heap.size + 2) ((w.alloc (Obj.cells #[.int .i64 lg, .slice a n c, .int .u64 fl, .int .u64 ct, .int .u64 at9, .int .u64 ls] 26)).alloc (Obj.cells #[.int .i64 lg', .slice b n' c', .int .u64 fl', .int .u64 ct', .int .u64 at9', .int .u64 ls'] 26)) W → W.cell? ⟨w.heap.size, 1, none⟩ = some (.slice a n c) ∧ W.cell? ⟨w.heap.size + 1, 1, none⟩ = some (.slice b n' c') from fun W hW => by
    refine ⟨(hW.cell (p := ⟨w.heap.size, 1, none⟩) (by show w.heap.size < w.heap.size + 2; omega)).trans (by simp [go_sem]), (hW.cell (p := ⟨w.heap.size + 1, 1, none⟩) (by show w.heap.size + 1 < w.heap.size + 2; omega)).trans (by simp [go_sem])⟩)
  clear A0 A1
  by_cases hh : lg = lg' ∧ fl = fl' ∧ ct = ct' ∧ at9 = at9' ∧ ls = ls' ∧ n = n'
  · obtain ⟨rfl, rfl, rfl, rfl, rfl, rfl⟩ := hh
    have q0 : (lg != lg) = false := by simp
    have q1 : (fl != fl) = false := by simp
    have q2 : (ct != ct) = false := by simp
    have q3 : (at9 != at9) = false := by simp
    have q4 : (ls != ls) = false := by simp
    have q5 : ((n : Int) != (n : Int)) = false := by simp
    go_enter Try.func12, Try.ntmps12
    go_wp2_with fail
    generalize hwa : (w.alloc (Obj.cells #[.int .i64 lg, .slice a n c, .int .u64 fl, .int .u64 ct, .int .u64 at9, .int .u64 ls] 26)).alloc (Obj.cells #[.int .i64 lg, .slice b n c', .int .u64 fl, .int .u64 ct, .int .u64 at9, .int .u64 ls] 26) = wa at *
    have hsa : wa.heap.size = w.heap.size + 2 := by rw [← hwa]; simp
    clear hwa
    go_loopw [5] (fun i wr => ∃ k : Nat, k ≤ n ∧ i = .int .i64 k ∧ Hid (l.take k = m.take k) ∧ Hid (Below (w.heap.size + 2) wa wr)) (fun i _ => n - (intOf i).toNat)
    case atStart => exact ⟨0, by omega, rfl, hide (by simp), hide (Below.refl _ _)⟩
    case round =>
      obtain ⟨k, hk, rfl, heq, hbel⟩ := hrel
      obtain ⟨r0, r1⟩ := hK.out wr hbel.out
      have hBW : Hid (Below w.heap.size w wr) := hide (HB0.out.trans (hbel.out.mono (by omega)))
      by_cases hlt : k < n
      · obtain ⟨f, b0, off, hx, rfl, v0, v1, hfw⟩ := fs_at (H0.out wr hBW.out) k hlt
        obtain ⟨g, b1, off', hy, rfl, u0, u1, hgw⟩ := fs_at (H1.out wr hBW.out) k hlt
        have HX := hide hx
        have HY := hide hy
        obtain ⟨S, K⟩ := f
        obtain ⟨S', K'⟩ := g
        simp only at v0 v1 u0 u1
        have hno : Hid (¬ (S = S' ∧ K = K') → ¬ l = m) := hide (fun h e => by
          subst e
          rw [hx] at hy
          simp at hy
          exact h hy)
        clear hx hy hfw hgw
        by_cases e0 : S = S'
        · subst e0
          by_cases e1 : K = K'
          · subst e1
            go_wp2_with fail
            go_region
            go_wp2
            go_roundw
            case rel => exact ⟨k + 1, by omega, by go_num, hide (by rw [List.take_add_one, List.take_add_one, HX.out, HY.out, heq.out]), hide hbel.out.drew⟩
            case measure => simp [intOf]; omega
          · have hno2 := hide (hno.out (by simp [e1]))
            have q : (K == K') = false := by simpa using e1
            clear e1 hno
            go_wp2_with fail
            go_region
            go_wp2
            go_ret
            exact ⟨false, rfl, by simp [hno2.out], hBW.out.drew⟩
        · have hno2 := hide (hno.out (by simp [e0]))
          have q : (S == S') = false := by simpa using e0
          clear e0 hno
          go_wp2_with fail
          go_region
          go_wp2
          go_ret
          exact ⟨false, rfl, by simp [hno2.out], hBW.out.drew⟩
      · obtain rfl : k = n := by omega
        have HE := hide (show l = m by
          have := heq.out
          rwa [show l.take k = l from by rw [← HL.out]; exact List.take_length, show m.take k = m from by rw [← HL'.out]; exact List.take_length] at this)
        go_wp2
        go_ret
        exact ⟨true, rfl, by simp [HE.out], hBW.out⟩
  · have hno : Hid (¬ (Vw.mk lg l fl ct at9 ls = Vw.mk lg' m fl' ct' at9' ls')) := hide (fun e => by
      injection e with e1 e2 e3 e4 e5 e6
      exact hh ⟨e1, e3, e4, e5, e6, by rw [← HL.out, ← HL'.out, e2]⟩)
    clear hK H0 H1
    rcases (show (lg ≠ lg') ∨ (lg = lg' ∧ fl ≠ fl') ∨ (lg = lg' ∧ fl = fl' ∧ ct ≠ ct') ∨ (lg = lg' ∧ fl = fl' ∧ ct = ct' ∧ at9 ≠ at9') ∨ (lg = lg' ∧ fl = fl' ∧ ct = ct' ∧ at9 = at9' ∧ ls ≠ ls') ∨ (lg = lg' ∧ fl = fl' ∧ ct = ct' ∧ at9 = at9' ∧ ls = ls' ∧ ((n : Int) ≠ (n' : Int))) by omega) with h | ⟨rfl, h⟩ | ⟨rfl, rfl, h⟩ | ⟨rfl, rfl, rfl, h⟩ | ⟨rfl, rfl, rfl, rfl, h⟩ | ⟨rfl, rfl, rfl, rfl, rfl, h⟩
    all_goals
      clear hh HL HL' hl hl'
      have q := bne_iff_ne.mpr h
      clear h
      have q0 : (lg != lg) = false := by simp
      have q1 : (fl != fl) = false := by simp
      have q2 : (ct != ct) = false := by simp
      have q3 : (at9 != at9) = false := by simp
      have q4 : (ls != ls) = false := by simp
      go_enter Try.func12, Try.ntmps12
      go_wp2
      go_ret
      exact ⟨false, rfl, by simp only [hno.out, Bool.false_eq_true], HB0.out⟩

end Go.Proofs.Ytgopcaemgcnapaa.Clep
