/- What the document's own SameView does when called (a walk over the translated program): for any two Views. -/
import Derived.Test.YtcahlmneancapaaGreatDoorFv01
import Derived.Laws.StructEq
import Derived.BigRegion
import Derived.Maps.AppendAt
import Derived.Laws.AppendOwnNone
import Derived.Deep.RegionHeldLaw
namespace Go.Proofs.YtcahlmneancapaaGreatDoor.Clep
open Go.RowKit
set_option linter.unusedVariables false
set_option maxRecDepth 10000

set_option maxHeartbeats 2000000 in
theorem sameview_any (a b : Option Addr) (n c n' c' : Nat) (A B : Vw) (w : World) (h0 : Fs w a n c A.f) (h1 : Fs w b n' c' B.f) (hn : n ≤ 9223372036854775807) (hn' : n' ≤ 9223372036854775807) :
    Calls Tryz.prog 14 #[vwV a n c A, vwV b n' c' B] w fun e w' => ∃ o, e = .returned (.bool o) ∧ (o = true ↔ A = B) ∧ Below w.heap.size w w' := by
  have hl := h0.1
  have hl' := h1.1
  obtain ⟨lg, l, fl, ct, at9, ls⟩ := A
  obtain ⟨lg', m, fl', ct', at9', ls'⟩ := B
  simp only at hl hl' h0 h1
  unfold vwV
  simp only
  have H0 := hide (fun W (hW : Below w.heap.size w W) => h0.below hW (Nat.le_refl _))
  have H1 := hide (fun W (hW : Below w.heap.size w W) => h1.below hW (Nat.le_refl _))
  have HL := hide hl
  have HL' := hide hl'
  clear h0 h1
  have A0 := ((Below.refl w.heap.size w).alloc (Nat.le_refl _) (Obj.cells #[.int .i64 lg, .slice a n c, .int .u64 fl, .int .u64 ct, .int .u64 at9, .int .u64 ls] 31))
  have A1 := A0.alloc (by simp) (Obj.cells #[.int .i64 lg', .slice b n' c', .int .u64 fl', .int .u64 ct', .int .u64 at9', .int .u64 ls'] 31)
  have HB0 := hide A1
  have hK := hide (show ∀ W, Below (w.heap.size + 2) ((w.alloc (Obj.cells #[.int .i64 lg, .slice a n c, .int .u64 fl, .int .u64 ct, .int .u64 at9, .int .u64 ls] 31)).alloc (Obj.cells #[.int .i64 lg', .slice b n' c', .int .u64 fl', .int .u64 ct', .int .u64 at9', .int .u64 ls'] 31)) W → W.cell? ⟨w.heap.size, 1, none⟩ = some (.slice a n c) ∧ W.cell? ⟨w.heap.size + 1, 1, none⟩ = some (.slice b n' c') from fun W hW => by
    refine ⟨(hW.cell (p := ⟨w.heap.size, 1, none⟩) (by show w.heap.size < w.heap.size + 2; omega)).trans (by simp [go_sem]), (hW.cell (p := ⟨w.heap.size + 1, 1, none⟩) (by show w.heap.size + 1 < w.heap.size + 2; omega)).trans (by simp [go_sem])⟩)
  clear A0 A1
  by_cases hh : lg = lg' ∧ fl = fl' ∧ ct = ct' ∧ at9 = at9' ∧ ls = ls' ∧ n = n'
  · obtain ⟨rfl, rfl, rfl, rfl, rfl, rfl⟩ := hh
    have q0 : (lg != lg) = false := by simp
    have q1 : (fl != fl) = false := by simp
    have q2 : (ct != ct) = false := by simp
    have q3 : (at9 != at9) = false := by simp
    have q4 : (ls != ls) = false := by simp
    have q5 : ((n : Int) != (n : Int)) = false := by simp
    go_enter Tryz.func14, Tryz.ntmps14
    go_wp2_with fail
    generalize hwa : (w.alloc (Obj.cells #[.int .i64 lg, .slice a n c, .int .u64 fl, .int .u64 ct, .int .u64 at9, .int .u64 ls] 31)).alloc (Obj.cells #[.int .i64 lg, .slice b n c', .int .u64 fl, .int .u64 ct, .int .u64 at9, .int .u64 ls] 31) = wa at *
    have hsa : wa.heap.size = w.heap.size + 2 := by rw [← hwa]; simp
    clear hwa
    go_loopw [5] (fun i wr => ∃ k : Nat, k ≤ n ∧ i = .int .i64 k ∧ Hid (l.take k = m.take k) ∧ Hid (Below (w.heap.size + 2) wa wr)) (fun i _ => n - (intOf i).toNat)
    case atStart => exact ⟨0, by omega, rfl, hide (by simp), hide (Below.refl _ _)⟩
    case round =>
      obtain ⟨k, hk, rfl, heq, hbel⟩ := hrel
      obtain ⟨r0, r1⟩ := hK.out wr hbel.out
      have hBW : Hid (Below w.heap.size w wr) := hide (HB0.out.trans (hbel.out.mono (by omega)))
      by_cases hlt : k < n
      · obtain ⟨f, b0, off, hx, rfl, v0, v1, hfw⟩ := fs_at (H0.out wr hBW.out) k hlt
        obtain ⟨g, b1, off', hy, rfl, u0, u1, hgw⟩ := fs_at (H1.out wr hBW.out) k hlt
        have HX := hide hx
        have HY := hide hy
        obtain ⟨S, K⟩ := f
        obtain ⟨S', K'⟩ := g
        simp only at v0 v1 u0 u1
        have hno : Hid (¬ (S = S' ∧ K = K') → ¬ l = m) := hide (fun h e => by
          subst e
          rw [hx] at hy
          simp at hy
          exact h hy)
        clear hx hy hfw hgw
        by_cases e0 : S = S'
        · subst e0
          by_cases e1 : K = K'
          · subst e1
            go_wp2_with fail
            go_region
            go_wp2
            go_roundw
            case rel => exact ⟨k + 1, by omega, by go_num, hide (by rw [List.take_add_one, List.take_add_one, HX.out, HY.out, heq.out]), hide hbel.out.drew⟩
            case measure => simp [intOf]; omega
          · have hno2 := hide (hno.out (by simp [e1]))
            have q : (K == K') = false := by simpa using e1
            clear e1 hno
            go_wp2_with fail
            go_region
            go_wp2
            go_ret
            exact ⟨false, rfl, by simp [hno2.out], hBW.out.drew⟩
        · have hno2 := hide (hno.out (by simp [e0]))
          have q : (S == S') = false := by simpa using e0
          clear e0 hno
          go_wp2_with fail
          go_region
          go_wp2
          go_ret
          exact ⟨false, rfl, by simp [hno2.out], hBW.out.drew⟩
      · obtain rfl : k = n := by omega
        have HE := hide (show l = m by
          have := heq.out
          rwa [show l.take k = l from by rw [← HL.out]; exact List.take_length, show m.take k = m from by rw [← HL'.out]; exact List.take_length] at this)
        go_wp2
        go_ret
        exact ⟨true, rfl, by simp [HE.out], hBW.out⟩
  · have hno : Hid (¬ (Vw.mk lg l fl ct at9 ls = Vw.mk lg' m fl' ct' at9' ls')) := hide (fun e => by
      injection e with e1 e2 e3 e4 e5 e6
      exact hh ⟨e1, e3, e4, e5, e6, by rw [← HL.out, ← HL'.out, e2]⟩)
    clear hK H0 H1
    rcases (show (lg ≠ lg') ∨ (lg = lg' ∧ fl ≠ fl') ∨ (lg = lg' ∧ fl = fl' ∧ ct ≠ ct') ∨ (lg = lg' ∧ fl = fl' ∧ ct = ct' ∧ at9 ≠ at9') ∨ (lg = lg' ∧ fl = fl' ∧ ct = ct' ∧ at9 = at9' ∧ ls ≠ ls') ∨ (lg = lg' ∧ fl = fl' ∧ ct = ct' ∧ at9 = at9' ∧ ls = ls' ∧ ((n : Int) ≠ (n' : Int))) by omega) with h | ⟨rfl, h⟩ | ⟨rfl, rfl, h⟩ | ⟨rfl, rfl, rfl, h⟩ | ⟨rfl, rfl, rfl, rfl, h⟩ | ⟨rfl, rfl, rfl, rfl, rfl, h⟩
    all_goals
      clear hh HL HL' hl hl'
      have q := bne_iff_ne.mpr h
      clear h
      have q0 : (lg != lg) = false := by simp
      have q1 : (fl != fl) = false := by simp
      have q2 : (ct != ct) = false := by simp
      have q3 : (at9 != at9) = false := by simp
      have q4 : (ls != ls) = false := by simp
      go_enter Tryz.func14, Tryz.ntmps14
      go_wp2
      go_ret
      exact ⟨false, rfl, by simp only [hno.out, Bool.false_eq_true], HB0.out⟩

end Go.Proofs.YtcahlmneancapaaGreatDoor.Clep

/- What the statements' own comparison of two Edits does when called (a walk over the translated program): for any two Edits. -/
namespace Go.Proofs.YtcahlmneancapaaGreatDoor.Clep
open Go.RowKit
set_option linter.unusedVariables false
set_option maxRecDepth 10000

theorem few_any (da aa : Option Addr) (dn dc an ac : Nat) (E : Ed) (w : World) (hn : dn ≤ 9223372036854775807) (hn2 : an ≤ 9223372036854775807) :
    Calls Tryz.prog 25 #[edV da dn dc aa an ac E] w fun e w' => e = .returned (.bool (decide (dn ≤ 60 ∧ an ≤ 60))) ∧ Below w.heap.size w w' := by
  have HB := hide ((Below.refl _ w).alloc (Nat.le_refl _) (Obj.cells #[.slice da dn dc, .slice aa an ac, .int .i64 E.lg, .int .u64 E.fl, .int .u64 E.ct, .int .u64 E.at9, .int .u64 E.ls] 34))
  unfold edV
  obtain ⟨O, hO⟩ : ∃ O, decide (dn ≤ 60 ∧ an ≤ 60) = O := ⟨_, rfl⟩
  rw [hO]
  rcases (show (dn ≤ 60 ∧ an ≤ 60) ∨ (60 < dn) ∨ (dn ≤ 60 ∧ 60 < an) by omega) with h | h | h
  · obtain rfl : O = true := by rw [← hO]; exact decide_eq_true h
    clear hO
    have g1 : (dn : Int) ≤ 60 := by omega
    have g2 : (an : Int) ≤ 60 := by omega
    go_enter Tryz.func25, Tryz.ntmps25
    go_wp2
    go_ret
    exact ⟨rfl, HB.out⟩
  · obtain rfl : O = false := by rw [← hO]; exact decide_eq_false (by omega)
    clear hO
    have g1 : ¬ ((dn : Int) ≤ 60) := by omega
    go_enter Tryz.func25, Tryz.ntmps25
    go_wp2
    go_ret
    exact ⟨rfl, HB.out⟩
  · obtain rfl : O = false := by rw [← hO]; exact decide_eq_false (by omega)
    clear hO
    have g1 : (dn : Int) ≤ 60 := by omega
    have g2 : ¬ ((an : Int) ≤ 60) := by omega
    go_enter Tryz.func25, Tryz.ntmps25
    go_wp2
    go_ret
    exact ⟨rfl, HB.out⟩

end Go.Proofs.YtcahlmneancapaaGreatDoor.Clep

/- What the document's own ViewOk does when called (a walk over the translated program): for any View. -/
namespace Go.Proofs.YtcahlmneancapaaGreatDoor.Clep
open Go.RowKit
set_option linter.unusedVariables false
set_option maxRecDepth 10000

theorem once_end (l : List Fi) (x : Fi) : once (l ++ [x]) = (once l && l.all (fun g => !(g.N == x.N))) := by
  induction l with
  | nil => rfl
  | cons f r ih =>
    show ((r ++ [x]).all (fun g => !(g.N == f.N)) && once (r ++ [x])) = ((r.all (fun g => !(g.N == f.N)) && once r) && (!(f.N == x.N) && r.all (fun g => !(g.N == x.N))))
    have hs : (x.N == f.N) = (f.N == x.N) := Bool.beq_comm
    rw [ih, List.all_append, show [x].all (fun g => !(g.N == f.N)) = !(f.N == x.N) from by simp [hs]]
    cases r.all (fun g => !(g.N == f.N)) <;> cases once r <;> cases (f.N == x.N) <;> simp
theorem once_take (l : List Fi) (k : Nat) (h : once l = true) : once (l.take k) = true := by
  induction l generalizing k with
  | nil => simp [once]
  | cons f r ih =>
    cases k with
    | zero => rfl
    | succ k =>
      have h' : (r.all (fun g => !(g.N == f.N)) && once r) = true := h
      rw [Bool.and_eq_true] at h'
      show ((r.take k).all (fun g => !(g.N == f.N)) && once (r.take k)) = true
      rw [ih k h'.2, Bool.and_true, List.all_eq_true]
      intro g hg
      exact List.all_eq_true.mp h'.1 g (List.mem_of_mem_take hg)
theorem once_bad {l : List Fi} {k i : Nat} {g x : Fi} (hg : l[k]? = some g) (hx : l[i]? = some x) (hki : k < i) (e : g.N = x.N) : once l = false := by
  rw [Bool.eq_false_iff]
  intro h
  have h2 := once_take l (i + 1) h
  rw [List.take_add_one, hx, Option.toList_some, once_end, Bool.and_eq_true, List.all_eq_true] at h2
  have := h2.2 g (List.mem_of_getElem? (i := k) (by rw [List.getElem?_take_of_lt hki, hg]))
  simp [e] at this
theorem once_more {l : List Fi} {i : Nat} {x : Fi} (hx : l[i]? = some x) (h : once (l.take i) = true) (ha : (l.take i).all (fun g => !(g.N == x.N)) = true) : once (l.take (i + 1)) = true := by
  rw [List.take_add_one, hx, Option.toList_some, once_end, h, ha]
  rfl
theorem vok_no {V : Vw} (h : vwH V = false ∨ V.f.all Fi.ok = false ∨ once V.f = false) : vok V = false := by
  unfold vok
  rcases h with h | h | h <;> rw [h] <;> simp

set_option maxHeartbeats 2000000 in
theorem viewok_any (a : Option Addr) (n c : Nat) (V : Vw) (w : World) (h0 : Fs w a n c V.f) (hn : n ≤ 9223372036854775807) :
    Calls Tryz.prog 57 #[vwV a n c V] w fun e w' => e = .returned (.bool (vok V)) ∧ Below w.heap.size w w' := by
  have hl := h0.1
  have H0 := hide (fun W (hW : Below w.heap.size w W) => h0.below hW (Nat.le_refl _))
  have HNO := hide (@vok_no V)
  have HYES := hide (show vwH V = true → V.f.all Fi.ok = true → once V.f = true → vok V = true from fun h1 h2 h3 => by unfold vok; rw [h1, h2, h3]; rfl)
  have HH := hide (show vwH V = decide (1 ≤ V.lg ∧ V.lg ≤ 1073741824 ∧ V.f.length ≤ 40 ∧ V.fl ≤ 281474976710656 ∧ V.ct ≤ 281474976710656 ∧ V.at9 ≤ 281474976710656 ∧ V.ls ≤ 281474976710656) from rfl)
  generalize vok V = M at *
  obtain ⟨lg, l, fl, ct, at9, ls⟩ := V
  simp only at hl H0 HNO HYES HH
  unfold vwV
  simp only
  rw [hl] at HH
  generalize vwH ⟨lg, l, fl, ct, at9, ls⟩ = H at *
  clear h0
  have A0 := ((Below.refl w.heap.size w).alloc (Nat.le_refl _) (Obj.cells #[.int .i64 lg, .slice a n c, .int .u64 fl, .int .u64 ct, .int .u64 at9, .int .u64 ls] 31))
  have HB0 := hide A0
  have hK := hide (show ∀ W, Below (w.heap.size + 1) (w.alloc (Obj.cells #[.int .i64 lg, .slice a n c, .int .u64 fl, .int .u64 ct, .int .u64 at9, .int .u64 ls] 31)) W → W.cell? ⟨w.heap.size, 1, none⟩ = some (.slice a n c) from fun W hW =>
    (hW.cell (p := ⟨w.heap.size, 1, none⟩) (by show w.heap.size < w.heap.size + 1; omega)).trans (by simp [go_sem]))
  clear A0
  by_cases hh : 1 ≤ lg ∧ lg ≤ 1073741824 ∧ n ≤ 40 ∧ fl ≤ 281474976710656 ∧ ct ≤ 281474976710656 ∧ at9 ≤ 281474976710656 ∧ ls ≤ 281474976710656
  · have hH : H = true := by rw [HH.out]; exact decide_eq_true hh
    subst hH
    obtain ⟨h1, h2, h3, h4, h5, h6, h7⟩ := hh
    have g1 : ¬ (lg < 1) := by omega
    have g2 : (n : Int) ≤ 40 := by omega
    clear HH
    go_enter Tryz.func57, Tryz.ntmps57
    go_wp2_with fail
    generalize hwa : w.alloc (Obj.cells #[.int .i64 lg, .slice a n c, .int .u64 fl, .int .u64 ct, .int .u64 at9, .int .u64 ls] 31) = wa at *
    have hsa : wa.heap.size = w.heap.size + 1 := by rw [← hwa]; simp
    clear hwa
    go_loopw [3] (fun i wr => ∃ k : Nat, k ≤ n ∧ i = .int .i64 k ∧ Hid ((l.take k).all Fi.ok = true) ∧ Hid (once (l.take k) = true) ∧ Hid (Below (w.heap.size + 1) wa wr)) (fun i _ => n - (intOf i).toNat)
    case atStart => exact ⟨0, by omega, rfl, hide (by simp), hide (by simp [once]), hide (Below.refl _ _)⟩
    case round =>
      obtain ⟨i, hi, rfl, hall, honce, hbel⟩ := hrel
      have r0 := hK.out wr hbel.out
      have hBW : Hid (Below w.heap.size w wr) := hide (HB0.out.trans (hbel.out.mono (by omega)))
      by_cases hlt : i < n
      · obtain ⟨f, b, off, hf, rfl, c0, c1, hfw⟩ := fs_at (H0.out wr hBW.out) i hlt
        obtain ⟨fL, fN⟩ := f
        simp only at c0 c1
        have FK := hide (fileok_any fL fN wr)
        obtain ⟨o, ho⟩ : ∃ o, Fi.ok ⟨fL, fN⟩ = o := ⟨_, rfl⟩
        rw [ho] at FK
        have HBD := hide (show o = false → M = false from fun e => HNO.out (.inr (.inl (all_bad hf (by rw [ho, e])))))
        have HTD := hide (show o = true → (l.take (i + 1)).all Fi.ok = true from fun e => all_more hf (by rw [ho, e]) hall.out)
        have HF := hide hf
        clear hf ho
        go_wp2_with fail
        refine FK.out.mono ?_
        rintro e w1 ⟨rfl, hb1⟩
        have HB1 := hide (hbel.out.trans (hb1.mono (by have := hbel.out.size; omega)))
        have HB2 := hide (hBW.out.trans (hb1.mono hBW.out.size))
        clear hb1 FK c0 c1 r0
        cases o with
        | false =>
          obtain rfl : M = false := HBD.out (by first | rfl | trivial)
          clear HBD HTD HNO HYES
          go_wp2
          go_ret
          exact ⟨rfl, HB2.out⟩
        | true =>
          have HT := hide (HTD.out (by first | rfl | trivial))
          clear HBD HTD hfw
          go_wp2_with fail
          go_loopw [4] (fun i' wr' => ∃ k : Nat, k ≤ i ∧ i' = .int .i64 k ∧ Hid ((l.take k).all (fun g => !(g.N == fN)) = true) ∧ Hid (Below (w.heap.size + 1) wa wr')) (fun i' _ => i - (intOf i').toNat)
          case atStart => exact ⟨0, by omega, rfl, hide (by simp), HB1⟩
          case round =>
            obtain ⟨k, hk, rfl, hno, hbel2⟩ := hrel
            have r0 := hK.out _ hbel2.out
            have hBW2 : Hid (Below w.heap.size w _) := hide (HB0.out.trans (hbel2.out.mono (by omega)))
            by_cases hlt2 : k < i
            · obtain ⟨g, b', off', hg, e9, d0, d1, hgw⟩ := fs_at (H0.out _ hBW2.out) k (by omega)
              injection e9 with e9
              injection e9 with e9 e8
              subst e9 e8
              obtain ⟨x, b', off', hx, e9, c0, c1, hxw⟩ := fs_at (H0.out _ hBW2.out) i hlt
              injection e9 with e9
              injection e9 with e9 e8
              subst e9 e8
              obtain rfl : (⟨fL, fN⟩ : Fi) = x := Option.some.inj (HF.out.symm.trans hx)
              obtain ⟨gL, gN⟩ := g
              simp only at c0 c1 d0 d1
              by_cases e : gN = fN
              · subst e
                obtain rfl : M = false := HNO.out (.inr (.inr (once_bad hg hx hlt2 rfl)))
                have q : (gN == gN) = true := by simp
                clear hg hx HNO HYES hxw hgw
                go_wp2_with fail
                go_region
                go_wp2
                go_ret
                exact ⟨rfl, hBW2.out.drew⟩
              · have q : (gN == fN) = false := by simpa using e
                have HN := hide (all_more hg (show (fun g : Fi => !(g.N == fN)) ⟨gL, gN⟩ = true by simp [q]) hno.out)
                clear hg hx e hxw hgw
                go_wp2_with fail
                go_region
                go_wp2
                go_roundw
                case rel => exact ⟨k + 1, by omega, by go_num, HN, hide hbel2.out.drew⟩
                case measure => simp [intOf]; omega
            · obtain rfl : k = i := by omega
              have HO := hide (once_more HF.out honce.out hno.out)
              go_wp2
              go_roundw
              case rel => exact ⟨k + 1, by omega, by go_num, HT, HO, hbel2⟩
              case measure => simp [intOf]; omega
      · obtain rfl : i = n := by omega
        have hall2 : l.all Fi.ok = true := by have := hall.out; rwa [List.take_of_length_le (by omega)] at this
        have honce2 : once l = true := by have := honce.out; rwa [List.take_of_length_le (by omega)] at this
        obtain rfl : M = true := HYES.out (by first | rfl | trivial) hall2 honce2
        clear hall hall2 honce honce2 HNO HYES
        go_wp2
        go_ret
        exact ⟨rfl, hBW.out⟩
  · have hH : H = false := by rw [HH.out]; exact decide_eq_false hh
    obtain rfl : M = false := HNO.out (.inl (by rw [hH]))
    clear HNO HYES HH hH H0 hK
    rcases (show lg < 1 ∨ (¬ (lg < 1) ∧ 1073741824 < lg) ∨ (¬ (lg < 1) ∧ ¬ (1073741824 < lg) ∧ 40 < n) ∨ (¬ (lg < 1) ∧ ¬ (1073741824 < lg) ∧ n ≤ 40 ∧ 281474976710656 < fl) ∨
      (¬ (lg < 1) ∧ ¬ (1073741824 < lg) ∧ n ≤ 40 ∧ ¬ (281474976710656 < fl) ∧ 281474976710656 < ct) ∨ (¬ (lg < 1) ∧ ¬ (1073741824 < lg) ∧ n ≤ 40 ∧ ¬ (281474976710656 < fl) ∧ ¬ (281474976710656 < ct) ∧ 281474976710656 < at9) ∨
      (¬ (lg < 1) ∧ ¬ (1073741824 < lg) ∧ n ≤ 40 ∧ ¬ (281474976710656 < fl) ∧ ¬ (281474976710656 < ct) ∧ ¬ (281474976710656 < at9) ∧ 281474976710656 < ls) by omega) with h | ⟨h1, h⟩ | ⟨h1, h2, h⟩ | ⟨h1, h2, h3, h⟩ | ⟨h1, h2, h3, h4, h⟩ | ⟨h1, h2, h3, h4, h5, h⟩ | ⟨h1, h2, h3, h4, h5, h6, h⟩
    all_goals
      clear hh
      try (have g1 : (n : Int) ≤ 40 := by omega)
      try (have g3 : (40 : Int) < (n : Int) := by omega)
      go_enter Tryz.func57, Tryz.ntmps57
      go_wp2
      go_ret
      exact ⟨rfl, HB0.out⟩

end Go.Proofs.YtcahlmneancapaaGreatDoor.Clep

/- What edit.numOk, filesOk, distinct, versionsOk and Ok do when called (walks over the translated program): for any View. -/
namespace Go.Proofs.YtcahlmneancapaaGreatDoor.Clep
open Go.RowKit
set_option linter.unusedVariables false
set_option maxRecDepth 10000

theorem numok_any (n : Int) (w : World) : Calls Tryz.prog 65 #[.int .i64 n] w fun e w' => e = .returned (.bool (okN n)) ∧ w' = w := by
  have HO := hide (show okN n = decide (1 ≤ n ∧ n ≤ 1073741824) from rfl)
  generalize okN n = O at *
  rcases (show (1 ≤ n ∧ n ≤ 1073741824) ∨ ¬ (1 ≤ n) ∨ (1 ≤ n ∧ ¬ (n ≤ 1073741824)) by omega) with h | h | h
  · obtain rfl : O = true := by rw [HO.out]; exact decide_eq_true h
    obtain ⟨h1, h2⟩ := h
    go_enter Tryz.func65, Tryz.ntmps65
    go_wp2
    go_ret
    exact ⟨rfl, rfl⟩
  · obtain rfl : O = false := by rw [HO.out]; exact decide_eq_false (by omega)
    go_enter Tryz.func65, Tryz.ntmps65
    go_wp2
    go_ret
    exact ⟨rfl, rfl⟩
  · obtain rfl : O = false := by rw [HO.out]; exact decide_eq_false (by omega)
    obtain ⟨h1, h2⟩ := h
    go_enter Tryz.func65, Tryz.ntmps65
    go_wp2
    go_ret
    exact ⟨rfl, rfl⟩

def flk (l : List Fi) : Bool := decide (l.length ≤ 40) && l.all Fi.ok
theorem fi_ok (L N : Int) : Fi.ok ⟨L, N⟩ = (decide (0 ≤ L ∧ L ≤ 3) && okN N) := by
  unfold Fi.ok okN
  by_cases h : 0 ≤ L ∧ L ≤ 3 <;> simp [h] <;> omega
set_option maxHeartbeats 1000000 in
theorem filesok_any (a : Option Addr) (n c : Nat) (l : List Fi) (w : World) (h : Fs w a n c l) (hn : n ≤ 9223372036854775807) :
    Calls Tryz.prog 66 #[.slice a n c] w fun e w' => e = .returned (.bool (flk l)) ∧ Below w.heap.size w w' := by
  have hl := h.1
  have H0 := hide (fun W (hW : Below w.heap.size w W) => h.below hW (Nat.le_refl _))
  have HNO := hide (show ¬ (n ≤ 40) ∨ l.all Fi.ok = false → flk l = false from fun h => by
    unfold flk
    rcases h with h | h
    · rw [show decide (l.length ≤ 40) = false from decide_eq_false (by omega)]; rfl
    · rw [h]; simp)
  have HYES := hide (show n ≤ 40 → l.all Fi.ok = true → flk l = true from fun h1 h2 => by
    unfold flk
    rw [h2, show decide (l.length ≤ 40) = true from decide_eq_true (by omega)]; rfl)
  generalize flk l = M at *
  clear h
  by_cases h40 : n ≤ 40
  · have g1 : (n : Int) ≤ 40 := by omega
    go_enter Tryz.func66, Tryz.ntmps66
    go_wp2_with fail
    go_loopw [10] (fun i wr => ∃ k : Nat, k ≤ n ∧ i = .int .i64 k ∧ Hid ((l.take k).all Fi.ok = true) ∧ Hid (Below w.heap.size w wr)) (fun i _ => n - (intOf i).toNat)
    case atStart => exact ⟨0, by omega, rfl, hide (by simp), hide (Below.refl _ _)⟩
    case round =>
      obtain ⟨k, hk, rfl, hall, hbel⟩ := hrel
      by_cases hlt : k < n
      · obtain ⟨f, b, off, hf, rfl, c0, c1, hfw⟩ := fs_at (H0.out wr hbel.out) k hlt
        obtain ⟨fL, fN⟩ := f
        simp only at c0 c1
        have HBA := hide (hbel.out.alloc hbel.out.size (Obj.cells #[.int .i64 fL, .int .i64 fN] 99))
        have HFO := hide (fi_ok fL fN)
        have HBD := hide (show Fi.ok ⟨fL, fN⟩ = false → M = false from fun e => HNO.out (.inr (all_bad hf e)))
        have HTD := hide (show Fi.ok ⟨fL, fN⟩ = true → (l.take (k + 1)).all Fi.ok = true from fun e => all_more hf e hall.out)
        clear hf hfw
        rcases (show fL < 0 ∨ (¬ (fL < 0) ∧ 3 < fL) ∨ (¬ (fL < 0) ∧ ¬ (3 < fL)) by omega) with q | ⟨q1, q2⟩ | ⟨q1, q2⟩
        · obtain rfl : M = false := HBD.out (by rw [HFO.out, show decide (0 ≤ fL ∧ fL ≤ 3) = false from decide_eq_false (by omega)]; rfl)
          clear HBD HTD HNO HYES HFO
          go_wp2
          go_ret
          exact ⟨rfl, HBA.out⟩
        · obtain rfl : M = false := HBD.out (by rw [HFO.out, show decide (0 ≤ fL ∧ fL ≤ 3) = false from decide_eq_false (by omega)]; rfl)
          clear HBD HTD HNO HYES HFO
          go_wp2
          go_ret
          exact ⟨rfl, HBA.out⟩
        · rw [show decide (0 ≤ fL ∧ fL ≤ 3) = true from decide_eq_true (by omega), Bool.true_and] at HFO
          have NK := hide (numok_any fN)
          obtain ⟨o, ho⟩ : ∃ o, okN fN = o := ⟨_, rfl⟩
          rw [ho] at HFO NK
          rw [HFO.out] at HBD HTD
          clear HFO ho
          go_wp2_with fail
          refine (NK.out _).mono ?_
          rintro e w1 ⟨rfl, rfl⟩
          clear NK c0 c1
          cases o with
          | false =>
            obtain rfl : M = false := HBD.out (by first | rfl | trivial)
            clear HBD HTD HNO HYES
            go_wp2
            go_ret
            exact ⟨rfl, HBA.out⟩
          | true =>
            have HT := hide (HTD.out (by first | rfl | trivial))
            clear HBD HTD
            go_wp2
            go_roundw
            case rel => exact ⟨k + 1, by omega, by go_num, HT, HBA⟩
            case measure => simp [intOf]; omega
      · obtain rfl : k = n := by omega
        have hall2 : l.all Fi.ok = true := by have := hall.out; rwa [List.take_of_length_le (by omega)] at this
        obtain rfl : M = true := HYES.out h40 hall2
        clear hall2 hall HNO HYES
        go_wp2
        go_ret
        exact ⟨rfl, hbel.out⟩
  · obtain rfl : M = false := HNO.out (.inl h40)
    clear HNO HYES H0
    have g3 : (40 : Int) < (n : Int) := by omega
    go_enter Tryz.func66, Tryz.ntmps66
    go_wp2
    go_ret
    exact ⟨rfl, Below.refl _ _⟩

set_option maxHeartbeats 1000000 in
theorem distinct_any (a : Option Addr) (n c : Nat) (l : List Fi) (w : World) (h : Fs w a n c l) (hn : n ≤ 40) (hc : c ≤ 9223372036854775807) :
    Calls Tryz.prog 67 #[.slice a n c] w fun e w' => e = .returned (.bool (once l)) ∧ Below w.heap.size w w' := by
  have hl := h.1
  have hnc := h.2.1.1
  have H0 := hide (fun W (hW : Below w.heap.size w W) => h.below hW (Nat.le_refl _))
  obtain ⟨M, hM⟩ : ∃ M, once l = M := ⟨_, rfl⟩
  have HM := hide hM
  rw [hM]
  clear h hM
  go_enter Tryz.func67, Tryz.ntmps67
  go_wp2_with fail
  go_loopw [9] (fun s wr => ∃ i : Nat, i ≤ n ∧ s = .int .i64 i ∧ Hid (once (l.take i) = true) ∧ Hid (Below w.heap.size w wr)) (fun s _ => n - (intOf s).toNat)
  case atStart => exact ⟨0, by omega, rfl, hide (by simp [once]), hide (Below.refl _ _)⟩
  case round =>
    obtain ⟨i, hi, rfl, honce, hbel⟩ := hrel
    by_cases hlt : i < n
    · obtain ⟨f, b, off, hf, rfl, c0, c1, hfw⟩ := fs_at (H0.out wr hbel.out) i hlt
      obtain ⟨fL, fN⟩ := f
      simp only at c0 c1
      have HF := hide hf
      have HBA := hide (hbel.out.alloc hbel.out.size (Obj.cells #[.int .i64 fL, .int .i64 fN] 99))
      have HCK := hide (show ∀ W, Below (wr.heap.size + 1) (wr.alloc (Obj.cells #[.int .i64 fL, .int .i64 fN] 99)) W → W.cell? ⟨wr.heap.size, 1, none⟩ = some (.int .i64 fN) from fun W hW => (hW.cell (p := ⟨wr.heap.size, 1, none⟩) (by show wr.heap.size < wr.heap.size + 1; omega)).trans (by simp [go_sem]))
      have hic : i ≤ c := by omega
      have g0 : (0 : Int) ≤ (i : Int) := by omega
      have g1 : (i : Int) ≤ (c : Int) := by omega
      clear hf hfw
      go_wp2_with fail
      generalize hwa : wr.alloc (Obj.cells #[.int .i64 fL, .int .i64 fN] 99) = wa at *
      have hsa : wa.heap.size = wr.heap.size + 1 := by rw [← hwa]; simp
      clear hwa
      obtain ⟨B, hB⟩ : ∃ B, wr.heap.size = B := ⟨_, rfl⟩
      rw [hB] at hsa HCK
      rw [hB]
      go_loopw [18] (fun s wr' => ∃ k : Nat, k ≤ i ∧ s = .int .i64 k ∧ Hid ((l.take k).all (fun g => !(g.N == fN)) = true) ∧ Hid (Below (B + 1) wa wr')) (fun s _ => i - (intOf s).toNat)
      case atStart => exact ⟨0, by omega, rfl, hide (by simp), hide (Below.refl _ _)⟩
      case round =>
        obtain ⟨k, hk, rfl, hno, hbel2⟩ := hrel
        have hcf := HCK.out _ hbel2.out
        have hsz2 := hbel2.out.size
        rw [hsa] at hsz2
        have hBW2 := hide (HBA.out.trans (hbel2.out.mono (by have := hbel.out.size; omega)))
        by_cases hlt2 : k < i
        · obtain ⟨g, b', off', hg, e9, d0, d1, hgw⟩ := fs_at (H0.out _ hBW2.out) k (by omega)
          injection e9 with e9
          injection e9 with e9 e8
          subst e9 e8
          obtain ⟨gL, gN⟩ := g
          simp only at d0 d1
          have hne : B < wr.heap.size := by omega
          have HBA2 := hide (hBW2.out.alloc hBW2.out.size (Obj.cells #[.int .i64 gL, .int .i64 gN] 99))
          have HBA3 := hide (hbel2.out.alloc (by omega) (Obj.cells #[.int .i64 gL, .int .i64 gN] 99))
          by_cases e : fN = gN
          · subst e
            have hMf : M = false := by rw [← HM.out]; exact once_bad hg HF.out hlt2 rfl
            subst hMf
            have q : (fN == fN) = true := by simp
            clear hg hgw
            go_wp2
            go_ret
            exact ⟨rfl, HBA2.out⟩
          · have q : (fN == gN) = false := by simpa using e
            have HN := hide (all_more hg (show (fun g : Fi => !(g.N == fN)) ⟨gL, gN⟩ = true by simpa using fun h => e h.symm) hno.out)
            clear hg e hgw
            go_wp2
            go_roundw
            case rel => exact ⟨k + 1, by omega, by go_num, HN, HBA3⟩
            case measure => simp [intOf]; omega
        · obtain rfl : k = i := by omega
          have HO := hide (once_more HF.out honce.out hno.out)
          go_wp2
          go_roundw
          case rel => exact ⟨k + 1, by omega, by go_num, HO, hBW2⟩
          case measure => simp [intOf]; omega
    · obtain rfl : i = n := by omega
      have hMt : M = true := by rw [← HM.out]; have := honce.out; rwa [List.take_of_length_le (by omega)] at this
      subst hMt
      go_wp2
      go_ret
      exact ⟨rfl, hbel.out⟩

/-- The block p holds the numbers ns. -/
def Uz (w : World) (p : Nat) (ns : List Int) : Prop := ∀ i z, ns[i]? = some z → w.cell? ⟨p, i, none⟩ = some (.int .u64 z)
def Iz (w : World) (p : Nat) (ns : List Int) : Prop := ∀ i z, ns[i]? = some z → w.cell? ⟨p, i, none⟩ = some (.int .i64 z)
def okV (n : Int) : Bool := decide (n ≤ 281474976710656)
theorem versok_any (p n : Nat) (ns : List Int) (w : World) (h : Uz w p ns) (hl : ns.length = n) (hn : n ≤ 9223372036854775807) :
    Calls Tryz.prog 68 #[.slice (some ⟨p, 0, none⟩) n n] w fun e w' => e = .returned (.bool (ns.all okV)) ∧ w' = w := by
  have H := hide h
  obtain ⟨M, hM⟩ : ∃ M, ns.all okV = M := ⟨_, rfl⟩
  have HM := hide hM
  rw [hM]
  clear h hM
  go_enter Tryz.func68, Tryz.ntmps68
  go_wp2_with fail
  go_loop [7] (fun s => ∃ i : Nat, i ≤ n ∧ s = .int .i64 i ∧ Hid ((ns.take i).all okV = true)) (fun s => n - (intOf s).toNat)
  case atStart => exact ⟨0, by omega, rfl, hide (by simp)⟩
  case round =>
    obtain ⟨i, hi, rfl, hall⟩ := hrel
    by_cases hlt : i < n
    · obtain ⟨z, hz⟩ : ∃ z, ns[i]? = some z := ⟨_, List.getElem?_eq_getElem (by rw [hl]; exact hlt)⟩
      have hcell := H.out i z hz
      by_cases hok : 281474976710656 < z
      · have hMf : M = false := by rw [← HM.out]; exact all_bad hz (show okV z = false from decide_eq_false (by omega))
        subst hMf
        clear hz
        go_wp2
        go_ret
        exact ⟨rfl, rfl⟩
      · have HT := hide (all_more hz (show okV z = true from decide_eq_true (by omega)) hall.out)
        clear hz
        go_wp2
        go_round
        case rel => exact ⟨i + 1, by omega, by go_num, HT⟩
        case measure => simp [intOf]; omega
    · obtain rfl : i = n := by omega
      have hMt : M = true := by rw [← HM.out]; have := hall.out; rwa [List.take_of_length_le (by omega)] at this
      subst hMt
      go_wp2
      go_ret
      exact ⟨rfl, rfl⟩

theorem vok_parts (V : Vw) : vok V = (okN V.lg && (flk V.f && (once V.f && [V.fl, V.ct, V.at9, V.ls].all okV))) := by
  unfold vok vwH flk okN okV
  cases h1 : V.f.all Fi.ok <;> cases h2 : once V.f <;> simp <;>
    (by_cases a1 : 1 ≤ V.lg <;> by_cases a2 : V.lg ≤ 1073741824 <;> by_cases a3 : V.f.length ≤ 40 <;> simp [a1, a2, a3])

end Go.Proofs.YtcahlmneancapaaGreatDoor.Clep

/- Rows of files that a call made, more files behind them. -/
namespace Go.Proofs.YtcahlmneancapaaGreatDoor.Clep
open Go.RowKit
set_option linter.unusedVariables false
set_option maxRecDepth 10000

theorem fgb_below {w w' : World} (h : Below w.heap.size w w') (row : Option Nat) : w.grownBy w' row := ⟨h.os, h.tape, h.output, h.size, fun i hi _ => h.block i hi⟩
def fcv (x : Fi) : List Value := [.int .i64 x.L, .int .i64 x.N]
def fcvs (l : List Fi) : List Value := l.flatMap fcv
theorem fcvs_len (l : List Fi) : (fcvs l).length = l.length * 2 := by
  induction l with
  | nil => rfl
  | cons x r ih => simp [fcvs, fcv] at ih ⊢; omega
theorem fcvs_get (l : List Fi) : ∀ (i j : Nat) (x : Fi), l[i]? = some x → j < 2 → (fcvs l)[i * 2 + j]? = (fcv x)[j]? := by
  induction l with
  | nil => intro i j x h; simp at h
  | cons y r ih =>
    intro i j x h hj
    have e : fcvs (y :: r) = fcv y ++ fcvs r := by simp [fcvs]
    rw [e]
    cases i with
    | zero =>
      simp at h; subst h
      rw [Nat.zero_mul, Nat.zero_add, List.getElem?_append_left (by simp [fcv]; omega)]
    | succ i =>
      simp at h
      rw [List.getElem?_append_right (by simp [fcv]; omega), show (i + 1) * 2 + j - (fcv y).length = i * 2 + j from by simp [fcv]; omega]
      exact ih i j x h hj
/-- The slice value v owns the files l, in a row of the call's own from block B on. -/
def OwnF (w : World) (B : Nat) (v : Value) (l : List Fi) : Prop := w.ownsRow B 99 2 v l.length (fcvs l)
theorem infoFi : (Tryz.prog.info? 99).map (fun i => (i.zero, i.size, i.bytes)) = some (some (.agg #[.int .i64 0, .int .i64 0]), 2, 16) := by kernel_rfl
theorem ownF_nil (w : World) (B : Nat) : OwnF w B (.slice none 0 0) [] := World.ownsRow_nil _ _ _ _
theorem ownF_grown {w w' : World} {B : Nat} {v : Value} {l : List Fi} {row : Option Nat} (h : OwnF w B v l) (hg : w.grownBy w' row) (hne : ∀ k, row = some k → k < B) : OwnF w' B v l := by
  refine World.ownsRow.kept h hg ?_
  cases hv : v.ownBlock with
  | none => exact .inl rfl
  | some k =>
    refine .inr fun e => ?_
    have := (World.ownsRow.lt h k hv).1
    have := hne k e.symm
    omega
theorem ownF_keep {w w' : World} {B : Nat} {v : Value} {l : List Fi} (h : OwnF w B v l) (hb : Below w.heap.size w w') : OwnF w' B v l := ownF_grown h (fgb_below hb none) (by simp)
theorem ownF_base {w : World} {B C : Nat} {v : Value} {l : List Fi} (h : OwnF w B v l) (hc : C ≤ B) : OwnF w C v l := by
  obtain ⟨hl, ⟨rfl, hn⟩ | ⟨g, cap, cur, rfl, hg, hh, hnc, hcm, hcs, hx⟩⟩ := h
  · exact ⟨hl, .inl ⟨rfl, hn⟩⟩
  · exact ⟨hl, .inr ⟨g, cap, cur, rfl, Nat.le_trans hc hg, hh, hnc, hcm, hcs, hx⟩⟩
theorem ownF_fs {w : World} {B : Nat} {v : Value} {l : List Fi} (h : OwnF w B v l) (hw : ∀ x ∈ l, x.wf) : ∃ ao cap, v = .slice ao l.length cap ∧ cap ≤ 9223372036854775807 ∧ Fs w ao l.length cap l ∧ ∀ a, ao = some a → B ≤ a.block := by
  have h0 := h
  obtain ⟨hl, ⟨rfl, hn⟩ | ⟨g, cap, cur, rfl, hg, hh, hnc, hcm, hcs, hx⟩⟩ := h
  · rw [hn]
    have : l = [] := List.eq_nil_of_length_eq_zero hn
    subst this
    exact ⟨none, 0, rfl, by omega, fs_nil w, fun a h => by cases h⟩
  · refine ⟨_, cap, rfl, by unfold maxLen at hcm; omega, ⟨rfl, ⟨hnc, fun h => by cases h⟩, hw, fun _ => ⟨g, 0, rfl, fun i x hi => ?_⟩⟩, fun a h => by cases h; exact hg⟩
    have hc : ∀ j, j < 2 → ∀ u, (fcv x)[j]? = some u → w.cell? ⟨g, 0 + (i * 2) + j, none⟩ = some u := fun j hj u hu => by
      have := World.ownsRow.cells h0 (g := g) rfl (i * 2 + j) u (by rw [fcvs_get l i j x hi hj]; exact hu)
      rw [add_plain] at this
      rw [Nat.add_assoc]
      exact this
    exact ⟨hc 0 (by omega) _ rfl, hc 1 (by omega) _ rfl⟩
/-- An append of any files to a row of the call's own. -/
theorem wpList_append_files {w : World} {ops : Array Oper} {rest : List Oper} {o : Oper} {a : Act} {Q : Exit → Act → World → Prop} (hgd : o.guard = none) (s x : Operand)
    (ho : o.op = .call { callee := .builtin .append, args := #[s, x], argTypes := #[28, 28] })
    (base : Nat) (v : Value) (l : List Fi) (hs : a.eval s = v) (hown : OwnF w base v l) (ao : Option Addr) (len cap : Nat) (m : List Fi) (hx : a.eval x = .slice ao len cap) (hb : Fs w ao len cap m)
    (hlen : l.length + len ≤ 3518437208883) (hbase : base ≤ w.heap.size)
    (h : ∀ v' w', OwnF w' base v' (l ++ m) → w.grownBy w' v.ownBlock → (∀ k, v.ownBlock = some k → base ≤ k) → wpList Tryz.prog ops Q rest (a.put o.dst v') w') : wpList Tryz.prog ops Q (o :: rest) a w := by
  obtain ⟨i0, hi, hz0, hz1, hz2⟩ := info_parts infoFi
  have hbk : ∀ k, v.ownBlock = some k → base ≤ k := fun k hk => (World.ownsRow.lt hown k hk).1
  cases ao with
  | none =>
    obtain ⟨rfl, rfl⟩ := hb.2.1.2 rfl
    have hy : m = [] := List.eq_nil_of_length_eq_zero hb.1
    subst hy
    exact wpList_append_own_none hgd s x 28 ho base 99 i0 2 Tryz.underlying28 hi v l.length (fcvs l) hs hown hx (h v w (by rwa [List.append_nil]) (fgb_below (Below.refl _ _) _) hbk)
  | some ad =>
    refine wpList_append_own _ hgd s x 28 ho base 99 i0 _ 2 16 Tryz.underlying28 hi hz0 hz1 hz2 rfl (by decide) v l.length (fcvs l) hs hown ad len cap (fcvs m) hx (by rw [fcvs_len, hb.1]) ?_ ?_
      (by unfold maxLen; omega) (by omega) hbase ?_
    · intro j u hu
      have hj : j < m.length * 2 := by rw [← fcvs_len]; exact (List.getElem?_eq_some_iff.1 hu).1
      obtain ⟨b, off, had, hc⟩ := hb.2.2.2 (by have := hb.1; omega)
      cases had
      obtain ⟨y, hy⟩ : ∃ y, m[j / 2]? = some y := ⟨_, List.getElem?_eq_getElem (by omega)⟩
      have e : j = j / 2 * 2 + j % 2 := by omega
      rw [e, fcvs_get m (j / 2) (j % 2) y hy (by omega)] at hu
      have g := hc (j / 2) y hy
      rw [add_plain]
      have hm : j % 2 = 0 ∨ j % 2 = 1 := by omega
      rw [show off + j = off + j / 2 * 2 + j % 2 from by omega]
      rcases hm with hm | hm <;> rw [hm] at hu ⊢ <;> simp [fcv] at hu <;> subst hu
      · exact g.1
      · exact g.2
    · intro u hu
      obtain ⟨y, _, hy⟩ := List.mem_flatMap.1 hu
      simp only [fcv, List.mem_cons, List.not_mem_nil, or_false] at hy
      rcases hy with rfl | rfl <;> rfl
    intro v' w' h1 h2 _
    refine h v' w' ?_ h2 hbk
    unfold OwnF
    rw [List.length_append, hb.1, show fcvs (l ++ m) = fcvs l ++ fcvs m from by simp [fcvs]]
    exact h1
/-- An append of any files to a row of the call's own, at a step. -/
theorem step_append_files {w : World} {ops : Array Oper} {o : Oper} {a : Act} {K : Act → World → Prop} {Q : Exit → Act → World → Prop} {E : Prop} (hgd : o.guard = none) (s x : Operand)
    (ho : o.op = .call { callee := .builtin .append, args := #[s, x], argTypes := #[28, 28] })
    (base : Nat) (v : Value) (l : List Fi) (hs : a.eval s = v) (hown : OwnF w base v l) (ao : Option Addr) (len cap : Nat) (m : List Fi) (hx : a.eval x = .slice ao len cap) (hb : Fs w ao len cap m)
    (hlen : l.length + len ≤ 3518437208883) (hbase : base ≤ w.heap.size)
    (h : ∀ v' w', OwnF w' base v' (l ++ m) → w.grownBy w' v.ownBlock → (∀ k, v.ownBlock = some k → base ≤ k) → K (a.put o.dst v') w') :
    if Region.wanted o (yielded ops a.tmps) = true then Oper.wp Tryz.prog o a w K Q else E := by
  have hw : Region.wanted o (yielded ops a.tmps) = true := by simp [Region.wanted, hgd]
  rw [if_pos hw]
  have hbk : ∀ k, v.ownBlock = some k → base ≤ k := fun k hk => (World.ownsRow.lt hown k hk).1
  obtain ⟨i0, hi, hz0, hz1, hz2⟩ := info_parts infoFi
  cases ao with
  | none =>
    obtain ⟨rfl, rfl⟩ := hb.2.1.2 rfl
    have hy : m = [] := List.eq_nil_of_length_eq_zero hb.1
    subst hy
    have hr := run_append_owned_none (P := Tryz.prog) (w := w) base 28 o.type 99 i0 2 Tryz.underlying28 hi v l.length (fcvs l) hown
    unfold Oper.wp
    simp [execOp, ho, resolve, invoke, builtin, hs, hx, hr, Result.andThen]
    exact h v w (by rwa [List.append_nil]) (fgb_below (Below.refl _ _) _) hbk
  | some ad =>
    refine wp_append_own _ s x 28 ho base 99 i0 _ 2 16 Tryz.underlying28 hi hz0 hz1 hz2 rfl (by decide) v l.length (fcvs l) hs hown ad len cap (fcvs m) hx (by rw [fcvs_len, hb.1]) ?_ ?_
      (by unfold maxLen; omega) (by omega) hbase ?_
    · intro j u hu
      have hj : j < m.length * 2 := by rw [← fcvs_len]; exact (List.getElem?_eq_some_iff.1 hu).1
      obtain ⟨b, off, had, hc⟩ := hb.2.2.2 (by have := hb.1; omega)
      cases had
      obtain ⟨y, hy⟩ : ∃ y, m[j / 2]? = some y := ⟨_, List.getElem?_eq_getElem (by omega)⟩
      have e : j = j / 2 * 2 + j % 2 := by omega
      rw [e, fcvs_get m (j / 2) (j % 2) y hy (by omega)] at hu
      have g := hc (j / 2) y hy
      rw [add_plain]
      have hm : j % 2 = 0 ∨ j % 2 = 1 := by omega
      rw [show off + j = off + j / 2 * 2 + j % 2 from by omega]
      rcases hm with hm | hm <;> rw [hm] at hu ⊢ <;> simp [fcv] at hu <;> subst hu
      · exact g.1
      · exact g.2
    · intro u hu
      obtain ⟨y, _, hy⟩ := List.mem_flatMap.1 hu
      simp only [fcv, List.mem_cons, List.not_mem_nil, or_false] at hy
      rcases hy with rfl | rfl <;> rfl
    intro v' w' h1 h2 _
    refine h v' w' ?_ h2 hbk
    unfold OwnF
    rw [List.length_append, hb.1, show fcvs (l ++ m) = fcvs l ++ fcvs m from by simp [fcvs]]
    exact h1
theorem ownF_empty {w : World} {B g : Nat} (h : w.heap[g]? = some (.cells #[] 99)) (hg : B ≤ g) : OwnF w B (.slice (some ⟨g, 0, none⟩) 0 0) [] :=
  ⟨rfl, .inr ⟨g, 0, #[], rfl, hg, h, Nat.le_refl _, by unfold maxLen; omega, rfl, rfl⟩⟩
theorem fs_block {w : World} {p : Nat} {L N : Int} (hw : Fi.wf ⟨L, N⟩) (h : w.heap[p]? = some (.cells #[.int .i64 L, .int .i64 N] 99)) : Fs w (some ⟨p, 0, none⟩) 1 1 [⟨L, N⟩] := by
  refine ⟨rfl, ⟨Nat.le_refl _, fun h => by cases h⟩, fun x hx => by rw [List.mem_singleton.1 hx]; exact hw, fun _ => ⟨p, 0, rfl, fun i x hi => ?_⟩⟩
  cases i with
  | zero =>
    simp at hi
    subst hi
    simp [World.cell?, h]
  | succ i => simp at hi

end Go.Proofs.YtcahlmneancapaaGreatDoor.Clep
