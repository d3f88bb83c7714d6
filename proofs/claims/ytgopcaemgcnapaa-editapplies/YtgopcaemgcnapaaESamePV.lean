/- What slices.Equal of files, edit.Same, slices.Clone of files and edit.Whole do when called (walks over the translated program): for any Views. -/
import Derived.Test.YtgopcaemgcnapaaEOkW
namespace Go.Proofs.Ytgopcaemgcnapaa.Clep
open Go.RowKit
set_option linter.unusedVariables false
set_option maxRecDepth 10000

set_option maxHeartbeats 1000000 in
theorem fequal_any (a b : Option Addr) (n c n' c' : Nat) (l m : List Fi) (w : World) (h0 : Fs w a n c l) (h1 : Fs w b n' c' m) (hn : n ≤ 9223372036854775807) (hn' : n' ≤ 9223372036854775807) :
    Calls Try.prog 46 #[.slice a n c, .slice b n' c'] w fun e w' => ∃ o, e = .returned (.bool o) ∧ (o = true ↔ l = m) ∧ Below w.heap.size w w' := by
  have H0 := hide (fun W (hW : Below w.heap.size w W) => h0.below hW (Nat.le_refl _))
  have H1 := hide (fun W (hW : Below w.heap.size w W) => h1.below hW (Nat.le_refl _))
  have HL := hide h0.1
  have HL' := hide h1.1
  clear h0 h1
  by_cases hh : n = n'
  · subst hh
    have q5 : ((n : Int) != (n : Int)) = false := by simp
    go_enter Try.func46, Try.ntmps46
    go_wp2_with fail
    go_loopw [13] (fun i wr => ∃ k : Nat, k ≤ n ∧ i = .int .i64 k ∧ Hid (l.take k = m.take k) ∧ Hid (Below w.heap.size w wr)) (fun i _ => n - (intOf i).toNat)
    case atStart => exact ⟨0, by omega, rfl, hide (by simp), hide (Below.refl _ _)⟩
    case round =>
      obtain ⟨k, hk, rfl, heq, hbel⟩ := hrel
      by_cases hlt : k < n
      · obtain ⟨f, b0, off, hx, rfl, v0, v1, hfw⟩ := fs_at (H0.out wr hbel.out) k hlt
        obtain ⟨g, b1, off', hy, rfl, u0, u1, hgw⟩ := fs_at (H1.out wr hbel.out) k hlt
        have HX := hide hx
        have HY := hide hy
        obtain ⟨S, K⟩ := f
        obtain ⟨S', K'⟩ := g
        simp only at v0 v1 u0 u1
        have hno : Hid (¬ (S = S' ∧ K = K') → ¬ l = m) := hide (fun h e => by
          subst e
          rw [hx] at hy
          simp at hy
          exact h hy)
        clear hx hy hfw hgw
        by_cases e0 : S = S'
        · subst e0
          by_cases e1 : K = K'
          · subst e1
            go_wp2_with fail
            go_region
            go_wp2
            go_roundw
            case rel => exact ⟨k + 1, by omega, by go_num, hide (by rw [List.take_add_one, List.take_add_one, HX.out, HY.out, heq.out]), hide hbel.out.drew⟩
            case measure => simp [intOf]; omega
          · have hno2 := hide (hno.out (by simp [e1]))
            have q : (K == K') = false := by simpa using e1
            clear e1 hno
            go_wp2_with fail
            go_region
            go_wp2
            go_ret
            exact ⟨false, rfl, by simp [hno2.out], hbel.out.drew⟩
        · have hno2 := hide (hno.out (by simp [e0]))
          have q : (S == S') = false := by simpa using e0
          clear e0 hno
          go_wp2_with fail
          go_region
          go_wp2
          go_ret
          exact ⟨false, rfl, by simp [hno2.out], hbel.out.drew⟩
      · obtain rfl : k = n := by omega
        have HE := hide (show l = m by
          have := heq.out
          rwa [show l.take k = l from by rw [← HL.out]; exact List.take_length, show m.take k = m from by rw [← HL'.out]; exact List.take_length] at this)
        go_wp2
        go_ret
        exact ⟨true, rfl, by simp [HE.out], hbel.out⟩
  · have hno : Hid (¬ (l = m)) := hide (fun e => hh (by rw [← HL.out, ← HL'.out, e]))
    have q : ((n : Int) != (n' : Int)) = true := bne_iff_ne.mpr (by omega)
    clear hh
    go_enter Try.func46, Try.ntmps46
    go_wp2
    go_ret
    exact ⟨false, rfl, by simp [hno.out], Below.refl _ _⟩

set_option maxHeartbeats 2000000 in
theorem psame_any (a b : Option Addr) (n c n' c' : Nat) (A B : Vw) (w : World) (h0 : Fs w a n c A.f) (h1 : Fs w b n' c' B.f) (hn : n ≤ 9223372036854775807) (hn' : n' ≤ 9223372036854775807) :
    Calls Try.prog 21 #[vwV a n c A, vwV b n' c' B] w fun e w' => ∃ o, e = .returned (.bool o) ∧ (o = true ↔ A = B) ∧ Below w.heap.size w w' := by
  obtain ⟨lg, l, fl, ct, at9, ls⟩ := A
  obtain ⟨lg', m, fl', ct', at9', ls'⟩ := B
  unfold vwV
  simp only at h0 h1 ⊢
  have H0 := hide (fun W (hW : Below w.heap.size w W) => h0.below hW (Nat.le_refl _))
  have H1 := hide (fun W (hW : Below w.heap.size w W) => h1.below hW (Nat.le_refl _))
  clear h0 h1
  have A0 := ((Below.refl w.heap.size w).alloc (Nat.le_refl _) (Obj.cells #[.int .i64 lg, .slice a n c, .int .u64 fl, .int .u64 ct, .int .u64 at9, .int .u64 ls] 26))
  have A1 := A0.alloc (by simp) (Obj.cells #[.int .i64 lg', .slice b n' c', .int .u64 fl', .int .u64 ct', .int .u64 at9', .int .u64 ls'] 26)
  have HB0 := hide A1
  have hK := hide (show ∀ W, Below (w.heap.size + 2) ((w.alloc (Obj.cells #[.int .i64 lg, .slice a n c, .int .u64 fl, .int .u64 ct, .int .u64 at9, .int .u64 ls] 26)).alloc (Obj.cells #[.int .i64 lg', .slice b n' c', .int .u64 fl', .int .u64 ct', .int .u64 at9', .int .u64 ls'] 26)) W → Ek W w.heap.size #[.int .i64 lg, .slice a n c, .int .u64 fl, .int .u64 ct, .int .u64 at9, .int .u64 ls] 26 ∧ Ek W (w.heap.size + 1) #[.int .i64 lg', .slice b n' c', .int .u64 fl', .int .u64 ct', .int .u64 at9', .int .u64 ls'] 26 from fun W hW =>
    ⟨(ek_old (ek_new w _ _) _).below hW (by omega), by have := ek_new (w.alloc (Obj.cells #[.int .i64 lg, .slice a n c, .int .u64 fl, .int .u64 ct, .int .u64 at9, .int .u64 ls] 26)) #[.int .i64 lg', .slice b n' c', .int .u64 fl', .int .u64 ct', .int .u64 at9', .int .u64 ls'] 26; rw [show (w.alloc (Obj.cells #[.int .i64 lg, .slice a n c, .int .u64 fl, .int .u64 ct, .int .u64 at9, .int .u64 ls] 26)).heap.size = w.heap.size + 1 from by simp] at this; exact this.below hW (by omega)⟩)
  have C := hide (fun W (hW : Below w.heap.size w W) => fequal_any a b n c n' c' l m W (H0.out W hW) (H1.out W hW) hn hn')
  clear A0 A1
  by_cases e0 : lg = lg'
  · subst e0
    have q0 : (lg == lg) = true := by simp
    have k := hK.out _ (Below.refl _ _)
    have k1 := k.1.cell (o := 1) rfl
    have k2 := k.2.cell (o := 1) rfl
    have hls := k.2.lt
    go_enter Try.func21, Try.ntmps21
    go_wp2_with fail
    refine (C.out _ HB0.out).mono ?_
    rintro e w1 ⟨o, rfl, ho, hb⟩
    have HB1 := hide (HB0.out.trans (hb.mono HB0.out.size))
    have k' := hK.out _ (hb.mono (by simp))
    have HO := hide ho
    clear k1 k2 k ho hb C
    cases o with
    | false =>
      have hne : Hid (¬ l = m) := hide (fun e => by have := HO.out.2 e; cases this)
      go_wp2
      go_ret
      exact ⟨false, rfl, by simp [hne.out], HB1.out⟩
    | true =>
      have hlm : Hid (l = m) := hide (HO.out.1 (by first | rfl | trivial))
      have x2 := k'.1.cell (o := 2) rfl
      have x3 := k'.1.cell (o := 3) rfl
      have x4 := k'.1.cell (o := 4) rfl
      have x5 := k'.1.cell (o := 5) rfl
      have y2 := k'.2.cell (o := 2) rfl
      have y3 := k'.2.cell (o := 3) rfl
      have y4 := k'.2.cell (o := 4) rfl
      have y5 := k'.2.cell (o := 5) rfl
      clear k' HO
      rcases (show (fl ≠ fl') ∨ (fl = fl' ∧ ct ≠ ct') ∨ (fl = fl' ∧ ct = ct' ∧ at9 ≠ at9') ∨ (fl = fl' ∧ ct = ct' ∧ at9 = at9' ∧ ls ≠ ls') ∨ (fl = fl' ∧ ct = ct' ∧ at9 = at9' ∧ ls = ls') by omega) with h | ⟨rfl, h⟩ | ⟨rfl, rfl, h⟩ | ⟨rfl, rfl, rfl, h⟩ | ⟨rfl, rfl, rfl, rfl⟩
      · have q := beq_eq_false_iff_ne.mpr h
        have HNE := hide h
        clear h
        go_wp2
        go_ret
        exact ⟨false, rfl, by simp [HNE.out], HB1.out⟩
      · have q := beq_eq_false_iff_ne.mpr h
        have q1 : (fl == fl) = true := by simp
        have HNE := hide h
        clear h
        go_wp2
        go_ret
        exact ⟨false, rfl, by simp [HNE.out], HB1.out⟩
      · have q := beq_eq_false_iff_ne.mpr h
        have q1 : (fl == fl) = true := by simp
        have q2 : (ct == ct) = true := by simp
        have HNE := hide h
        clear h
        go_wp2
        go_ret
        exact ⟨false, rfl, by simp [HNE.out], HB1.out⟩
      · have q := beq_eq_false_iff_ne.mpr h
        have q1 : (fl == fl) = true := by simp
        have q2 : (ct == ct) = true := by simp
        have q3 : (at9 == at9) = true := by simp
        have HNE := hide h
        clear h
        go_wp2
        go_ret
        exact ⟨false, rfl, by simp [HNE.out], HB1.out⟩
      · have q1 : (fl == fl) = true := by simp
        have q2 : (ct == ct) = true := by simp
        have q3 : (at9 == at9) = true := by simp
        have q4 : (ls == ls) = true := by simp
        go_wp2
        go_ret
        exact ⟨true, rfl, by simp [hlm.out], HB1.out⟩
  · have q0 : (lg == lg') = false := by simpa using e0
    have HNE := hide e0
    clear e0 hK C
    go_enter Try.func21, Try.ntmps21
    go_wp2
    go_ret
    exact ⟨false, rfl, by simp [HNE.out], HB0.out⟩

theorem fclone_any (a : Option Addr) (n c : Nat) (l : List Fi) (w : World) (h : Fs w a n c l) (hn : n ≤ 100000) :
    Calls Try.prog 52 #[.slice a n c] w fun e w' => ∃ v, e = .returned v ∧ OwnF w' w.heap.size v l ∧ Below w.heap.size w w' := by
  cases a with
  | none =>
    obtain ⟨rfl, rfl⟩ := h.2.1.2 rfl
    have hl : l = [] := List.eq_nil_of_length_eq_zero h.1
    subst hl
    clear h
    have heq : ∀ (w : World) (a : Option Addr) (n c : Nat), (binOp .eql 23 (.slice a n c) (.slice none 0 0)).run Try.prog w = .ok (.bool a.isNone) w := fun w a n c => by
      have := run_equal_slice_nil (P := Try.prog) (w := w) 23 29 a n c Try.underlying23
      simp [binOp, this, Result.andThen]
    go_enter Try.func52, Try.ntmps52
    go_wp2
    go_ret
    exact ⟨_, rfl, ownF_nil _ _, Below.refl _ _⟩
  | some x =>
    have hl := h.1
    have H0 := hide (fun W (hW : Below w.heap.size w W) => h.below hW (Nat.le_refl _))
    have HB0 := hide ((Below.refl w.heap.size w).alloc (Nat.le_refl _) (Obj.cells #[] 29))
    have HE := hide (ownF_empty (w := w.alloc (Obj.cells #[] 29)) (fhpS w (Obj.cells #[] 29) _ rfl) (Nat.le_refl w.heap.size))
    clear h
    have heq : ∀ (w : World) (a : Option Addr) (n c : Nat), (binOp .eql 23 (.slice a n c) (.slice none 0 0)).run Try.prog w = .ok (.bool a.isNone) w := fun w a n c => by
      have := run_equal_slice_nil (P := Try.prog) (w := w) 23 29 a n c Try.underlying23
      simp [binOp, this, Result.andThen]
    go_enter Try.func52, Try.ntmps52
    go_wp2_with (first
      | (at_builtin; refine wpList_append_files rfl _ _ rfl w.heap.size _ [] rfl HE.out _ n c l rfl (H0.out _ HB0.out) (by simp; omega) HB0.out.size ?_)
      | fail)
    intro v w1 o1 g1 k1
    have HB1 := hide (HB0.out.grown g1 HB0.out.size k1)
    have HO := hide o1
    clear o1 g1 k1
    go_wp2
    go_ret
    exact ⟨_, rfl, HO.out, HB1.out⟩

end Go.Proofs.Ytgopcaemgcnapaa.Clep
