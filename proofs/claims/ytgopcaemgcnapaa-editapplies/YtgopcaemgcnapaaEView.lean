/- What the document's own ViewOk does when called (a walk over the translated program): for any View. -/
import Derived.Test.YtgopcaemgcnapaaESameE
namespace Go.Proofs.Ytgopcaemgcnapaa.Clep
open Go.RowKit
set_option linter.unusedVariables false
set_option maxRecDepth 10000

theorem once_end (l : List Fi) (x : Fi) : once (l ++ [x]) = (once l && l.all (fun g => !(g.N == x.N))) := by
  induction l with
  | nil => rfl
  | cons f r ih =>
    show ((r ++ [x]).all (fun g => !(g.N == f.N)) && once (r ++ [x])) = ((r.all (fun g => !(g.N == f.N)) && once r) && (!(f.N == x.N) && r.all (fun g => !(g.N == x.N))))
    have hs : (x.N == f.N) = (f.N == x.N) := Bool.beq_comm
    rw [ih, List.all_append, show [x].all (fun g => !(g.N == f.N)) = !(f.N == x.N) from by simp [hs]]
    cases r.all (fun g => !(g.N == f.N)) <;> cases once r <;> cases (f.N == x.N) <;> simp
theorem once_take (l : List Fi) (k : Nat) (h : once l = true) : once (l.take k) = true := by
  induction l generalizing k with
  | nil => simp [once]
  | cons f r ih =>
    cases k with
    | zero => rfl
    | succ k =>
      have h' : (r.all (fun g => !(g.N == f.N)) && once r) = true := h
      rw [Bool.and_eq_true] at h'
      show ((r.take k).all (fun g => !(g.N == f.N)) && once (r.take k)) = true
      rw [ih k h'.2, Bool.and_true, List.all_eq_true]
      intro g hg
      exact List.all_eq_true.mp h'.1 g (List.mem_of_mem_take hg)
theorem once_bad {l : List Fi} {k i : Nat} {g x : Fi} (hg : l[k]? = some g) (hx : l[i]? = some x) (hki : k < i) (e : g.N = x.N) : once l = false := by
  rw [Bool.eq_false_iff]
  intro h
  have h2 := once_take l (i + 1) h
  rw [List.take_add_one, hx, Option.toList_some, once_end, Bool.and_eq_true, List.all_eq_true] at h2
  have := h2.2 g (List.mem_of_getElem? (i := k) (by rw [List.getElem?_take_of_lt hki, hg]))
  simp [e] at this
theorem once_more {l : List Fi} {i : Nat} {x : Fi} (hx : l[i]? = some x) (h : once (l.take i) = true) (ha : (l.take i).all (fun g => !(g.N == x.N)) = true) : once (l.take (i + 1)) = true := by
  rw [List.take_add_one, hx, Option.toList_some, once_end, h, ha]
  rfl
theorem vok_no {V : Vw} (h : vwH V = false ∨ V.f.all Fi.ok = false ∨ once V.f = false) : vok V = false := by
  unfold vok
  rcases h with h | h | h <;> rw [h] <;> simp

set_option maxHeartbeats 2000000 in
theorem viewok_any (a : Option Addr) (n c : Nat) (V : Vw) (w : World) (h0 : Fs w a n c V.f) (hn : n ≤ 9223372036854775807) :
    Calls Try.prog 23 #[vwV a n c V] w fun e w' => e = .returned (.bool (vok V)) ∧ Below w.heap.size w w' := by
  have hl := h0.1
  have H0 := hide (fun W (hW : Below w.heap.size w W) => h0.below hW (Nat.le_refl _))
  have HNO := hide (@vok_no V)
  have HYES := hide (show vwH V = true → V.f.all Fi.ok = true → once V.f = true → vok V = true from fun h1 h2 h3 => by unfold vok; rw [h1, h2, h3]; rfl)
  have HH := hide (show vwH V = decide (1 ≤ V.lg ∧ V.lg ≤ 1073741824 ∧ V.f.length ≤ 40 ∧ V.fl ≤ 281474976710656 ∧ V.ct ≤ 281474976710656 ∧ V.at9 ≤ 281474976710656 ∧ V.ls ≤ 281474976710656) from rfl)
  generalize vok V = M at *
  obtain ⟨lg, l, fl, ct, at9, ls⟩ := V
  simp only at hl H0 HNO HYES HH
  unfold vwV
  simp only
  rw [hl] at HH
  generalize vwH ⟨lg, l, fl, ct, at9, ls⟩ = H at *
  clear h0
  have A0 := ((Below.refl w.heap.size w).alloc (Nat.le_refl _) (Obj.cells #[.int .i64 lg, .slice a n c, .int .u64 fl, .int .u64 ct, .int .u64 at9, .int .u64 ls] 26))
  have HB0 := hide A0
  have hK := hide (show ∀ W, Below (w.heap.size + 1) (w.alloc (Obj.cells #[.int .i64 lg, .slice a n c, .int .u64 fl, .int .u64 ct, .int .u64 at9, .int .u64 ls] 26)) W → W.cell? ⟨w.heap.size, 1, none⟩ = some (.slice a n c) from fun W hW =>
    (hW.cell (p := ⟨w.heap.size, 1, none⟩) (by show w.heap.size < w.heap.size + 1; omega)).trans (by simp [go_sem]))
  clear A0
  by_cases hh : 1 ≤ lg ∧ lg ≤ 1073741824 ∧ n ≤ 40 ∧ fl ≤ 281474976710656 ∧ ct ≤ 281474976710656 ∧ at9 ≤ 281474976710656 ∧ ls ≤ 281474976710656
  · have hH : H = true := by rw [HH.out]; exact decide_eq_true hh
    subst hH
    obtain ⟨h1, h2, h3, h4, h5, h6, h7⟩ := hh
    have g1 : ¬ (lg < 1) := by omega
    have g2 : (n : Int) ≤ 40 := by omega
    clear HH
    go_enter Try.func23, Try.ntmps23
    go_wp2_with fail
    generalize hwa : w.alloc (Obj.cells #[.int .i64 lg, .slice a n c, .int .u64 fl, .int .u64 ct, .int .u64 at9, .int .u64 ls] 26) = wa at *
    have hsa : wa.heap.size = w.heap.size + 1 := by rw [← hwa]; simp
    clear hwa
    go_loopw [3] (fun i wr => ∃ k : Nat, k ≤ n ∧ i = .int .i64 k ∧ Hid ((l.take k).all Fi.ok = true) ∧ Hid (once (l.take k) = true) ∧ Hid (Below (w.heap.size + 1) wa wr)) (fun i _ => n - (intOf i).toNat)
    case atStart => exact ⟨0, by omega, rfl, hide (by simp), hide (by simp [once]), hide (Below.refl _ _)⟩
    case round =>
      obtain ⟨i, hi, rfl, hall, honce, hbel⟩ := hrel
      have r0 := hK.out wr hbel.out
      have hBW : Hid (Below w.heap.size w wr) := hide (HB0.out.trans (hbel.out.mono (by omega)))
      by_cases hlt : i < n
      · obtain ⟨f, b, off, hf, rfl, c0, c1, hfw⟩ := fs_at (H0.out wr hBW.out) i hlt
        obtain ⟨fL, fN⟩ := f
        simp only at c0 c1
        have FK := hide (fileok_any fL fN wr)
        obtain ⟨o, ho⟩ : ∃ o, Fi.ok ⟨fL, fN⟩ = o := ⟨_, rfl⟩
        rw [ho] at FK
        have HBD := hide (show o = false → M = false from fun e => HNO.out (.inr (.inl (all_bad hf (by rw [ho, e])))))
        have HTD := hide (show o = true → (l.take (i + 1)).all Fi.ok = true from fun e => all_more hf (by rw [ho, e]) hall.out)
        have HF := hide hf
        clear hf ho
        go_wp2_with fail
        refine FK.out.mono ?_
        rintro e w1 ⟨rfl, hb1⟩
        have HB1 := hide (hbel.out.trans (hb1.mono (by have := hbel.out.size; omega)))
        have HB2 := hide (hBW.out.trans (hb1.mono hBW.out.size))
        clear hb1 FK c0 c1 r0
        cases o with
        | false =>
          obtain rfl : M = false := HBD.out (by first | rfl | trivial)
          clear HBD HTD HNO HYES
          go_wp2
          go_ret
          exact ⟨rfl, HB2.out⟩
        | true =>
          have HT := hide (HTD.out (by first | rfl | trivial))
          clear HBD HTD hfw
          go_wp2_with fail
          go_loopw [4] (fun i' wr' => ∃ k : Nat, k ≤ i ∧ i' = .int .i64 k ∧ Hid ((l.take k).all (fun g => !(g.N == fN)) = true) ∧ Hid (Below (w.heap.size + 1) wa wr')) (fun i' _ => i - (intOf i').toNat)
          case atStart => exact ⟨0, by omega, rfl, hide (by simp), HB1⟩
          case round =>
            obtain ⟨k, hk, rfl, hno, hbel2⟩ := hrel
            have r0 := hK.out _ hbel2.out
            have hBW2 : Hid (Below w.heap.size w _) := hide (HB0.out.trans (hbel2.out.mono (by omega)))
            by_cases hlt2 : k < i
            · obtain ⟨g, b', off', hg, e9, d0, d1, hgw⟩ := fs_at (H0.out _ hBW2.out) k (by omega)
              injection e9 with e9
              injection e9 with e9 e8
              subst e9 e8
              obtain ⟨x, b', off', hx, e9, c0, c1, hxw⟩ := fs_at (H0.out _ hBW2.out) i hlt
              injection e9 with e9
              injection e9 with e9 e8
              subst e9 e8
              obtain rfl : (⟨fL, fN⟩ : Fi) = x := Option.some.inj (HF.out.symm.trans hx)
              obtain ⟨gL, gN⟩ := g
              simp only at c0 c1 d0 d1
              by_cases e : gN = fN
              · subst e
                obtain rfl : M = false := HNO.out (.inr (.inr (once_bad hg hx hlt2 rfl)))
                have q : (gN == gN) = true := by simp
                clear hg hx HNO HYES hxw hgw
                go_wp2_with fail
                go_region
                go_wp2
                go_ret
                exact ⟨rfl, hBW2.out.drew⟩
              · have q : (gN == fN) = false := by simpa using e
                have HN := hide (all_more hg (show (fun g : Fi => !(g.N == fN)) ⟨gL, gN⟩ = true by simp [q]) hno.out)
                clear hg hx e hxw hgw
                go_wp2_with fail
                go_region
                go_wp2
                go_roundw
                case rel => exact ⟨k + 1, by omega, by go_num, HN, hide hbel2.out.drew⟩
                case measure => simp [intOf]; omega
            · obtain rfl : k = i := by omega
              have HO := hide (once_more HF.out honce.out hno.out)
              go_wp2
              go_roundw
              case rel => exact ⟨k + 1, by omega, by go_num, HT, HO, hbel2⟩
              case measure => simp [intOf]; omega
      · obtain rfl : i = n := by omega
        have hall2 : l.all Fi.ok = true := by have := hall.out; rwa [List.take_of_length_le (by omega)] at this
        have honce2 : once l = true := by have := honce.out; rwa [List.take_of_length_le (by omega)] at this
        obtain rfl : M = true := HYES.out (by first | rfl | trivial) hall2 honce2
        clear hall hall2 honce honce2 HNO HYES
        go_wp2
        go_ret
        exact ⟨rfl, hBW.out⟩
  · have hH : H = false := by rw [HH.out]; exact decide_eq_false hh
    obtain rfl : M = false := HNO.out (.inl (by rw [hH]))
    clear HNO HYES HH hH H0 hK
    rcases (show lg < 1 ∨ (¬ (lg < 1) ∧ 1073741824 < lg) ∨ (¬ (lg < 1) ∧ ¬ (1073741824 < lg) ∧ 40 < n) ∨ (¬ (lg < 1) ∧ ¬ (1073741824 < lg) ∧ n ≤ 40 ∧ 281474976710656 < fl) ∨
      (¬ (lg < 1) ∧ ¬ (1073741824 < lg) ∧ n ≤ 40 ∧ ¬ (281474976710656 < fl) ∧ 281474976710656 < ct) ∨ (¬ (lg < 1) ∧ ¬ (1073741824 < lg) ∧ n ≤ 40 ∧ ¬ (281474976710656 < fl) ∧ ¬ (281474976710656 < ct) ∧ 281474976710656 < at9) ∨
      (¬ (lg < 1) ∧ ¬ (1073741824 < lg) ∧ n ≤ 40 ∧ ¬ (281474976710656 < fl) ∧ ¬ (281474976710656 < ct) ∧ ¬ (281474976710656 < at9) ∧ 281474976710656 < ls) by omega) with h | ⟨h1, h⟩ | ⟨h1, h2, h⟩ | ⟨h1, h2, h3, h⟩ | ⟨h1, h2, h3, h4, h⟩ | ⟨h1, h2, h3, h4, h5, h⟩ | ⟨h1, h2, h3, h4, h5, h6, h⟩
    all_goals
      clear hh
      try (have g1 : (n : Int) ≤ 40 := by omega)
      try (have g3 : (40 : Int) < (n : Int) := by omega)
      go_enter Try.func23, Try.ntmps23
      go_wp2
      go_ret
      exact ⟨rfl, HB0.out⟩

end Go.Proofs.Ytgopcaemgcnapaa.Clep
