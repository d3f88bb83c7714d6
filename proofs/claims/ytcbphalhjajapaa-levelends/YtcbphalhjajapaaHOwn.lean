/- What level.own does when called (a walk over the translated program): the file, its keys in memory of their own. No conditions. Written by wip/tools/gen17own.py. -/
import Derived.Test.YtcbphalhjajapaaHMap
import Derived.Test.YtcbphalhjajapaaHInv
namespace Go.Proofs.Ytcbphalhjajapaa.Clep
open Go.RowKit
set_option linter.unusedVariables false
set_option linter.unusedSimpArgs false

/-- What a file says, wherever its keys lie. -/
def He.a (x : He) : Int × Int × List Int × List Int × Int := (x.N, x.L, x.fz, x.gz, x.M)
/-- A copy of the bytes zs, in memory made since. -/
def Gd (B : Nat) (W : World) (v : Value) (zs : List Int) : Prop := ∃ a c, v = .slice a zs.length c ∧ Bs W a zs.length c zs ∧ ∀ p, a = some p → B ≤ p.block ∧ p.block < W.heap.size
theorem Gd.keep {B : Nat} {W W' : World} {v : Value} {zs : List Int} (h : Gd B W v zs) (hb : Below W.heap.size W W') : Gd B W' v zs := by
  obtain ⟨a, c, h1, h2, h3⟩ := h
  exact ⟨a, c, h1, h2.below hb (Nat.le_refl _), fun p e => ⟨(h3 p e).1, Nat.lt_of_lt_of_le (h3 p e).2 hb.size⟩⟩
theorem Bs.gb {w w' : World} {row : Option Nat} {ao : Option Addr} {len cap : Nat} {zs : List Int} (h : Bs w ao len cap zs) (hg : w.grownBy w' row) (hne : ∀ p, ao = some p → some p.block ≠ row) : Bs w' ao len cap zs := by
  refine ⟨h.1, h.2.1, h.2.2.1, fun h0 => ?_⟩
  obtain ⟨b, off, e, hc⟩ := h.2.2.2 h0
  refine ⟨b, off, e, fun i hi => ?_⟩
  have hlt := World.block_lt_of_cell? w _ (hc i hi)
  rw [World.cell?_of_block (a := ⟨b, off + i, none⟩) (hg.block b hlt (hne _ e))]
  exact hc i hi
theorem Gd.set {B b o : Nat} {W : World} {v u : Value} {zs : List Int} (h : Gd B W v zs) (hb : b < B) : Gd B (W.setCell ⟨b, o, none⟩ u) v zs := by
  obtain ⟨a, c, h1, h2, h3⟩ := h
  have hg := fgb_set W ⟨b, o, none⟩ u
  exact ⟨a, c, h1, h2.gb hg (fun p e e2 => by have := (h3 p e).1; have := Option.some.inj e2; simp only at this; omega), fun p e => ⟨(h3 p e).1, Nat.lt_of_lt_of_le (h3 p e).2 hg.size⟩⟩
/-- What each slot of own's region holds. -/
def WnT (w : World) (x : He) : (Nat → Bool) → Nat → Value → World → Prop := fun L j v W => match j with
  | 0 => v = .pointer (some ⟨w.heap.size, 2, none⟩)
  | 1 => v = .slice x.fa x.fz.length x.fc
  | 2 => Gd (w.heap.size + 2) W v x.fz
  | 3 => v = .pointer (some ⟨w.heap.size, 3, none⟩)
  | 4 => v = .slice x.ga x.gz.length x.gc
  | 5 => Gd (w.heap.size + 2) W v x.gz
  | 6 => v = .pointer (some ⟨w.heap.size, 2, none⟩)
  | 8 => v = .pointer (some ⟨w.heap.size, 3, none⟩)
  | _ => True
/-- What the memory holds meanwhile. -/
def WnG (w : World) (x : He) : (Nat → Bool) → World → Prop := fun L W => (∃ u2 u3, Ek W w.heap.size #[.int .i64 x.N, .int .i64 x.L, u2, u3, .int .i64 x.M] 27 ∧ (L 7 = false → u2 = .slice x.fa x.fz.length x.fc) ∧ (L 7 = true → Gd (w.heap.size + 2) W u2 x.fz) ∧ (L 9 = false → u3 = .slice x.ga x.gz.length x.gc) ∧ (L 9 = true → Gd (w.heap.size + 2) W u3 x.gz)) ∧
  Ek W (w.heap.size + 1) #[.int .i64 0, .int .i64 0, .slice none 0 0, .slice none 0 0, .int .i64 0] 27 ∧ Below w.heap.size w W ∧ w.heap.size + 2 ≤ W.heap.size ∧
  (L 2 = true → L 1 = true) ∧ (L 5 = true → L 4 = true) ∧ (L 7 = true → L 2 = true) ∧ (L 9 = true → L 5 = true)
theorem wnt_keep {w : World} {x : He} {L L' : Nat → Bool} {W W' : World} (hk : ∀ v zs, Gd (w.heap.size + 2) W v zs → Gd (w.heap.size + 2) W' v zs) : ∀ j u, WnT w x L j u W → WnT w x L' j u W' := by
  intro j u h
  match j, h with
  | 0, h => exact h
  | 1, h => exact h
  | 2, h => exact hk _ _ h
  | 3, h => exact h
  | 4, h => exact h
  | 5, h => exact hk _ _ h
  | 6, h => exact h
  | 7, h => trivial
  | 8, h => exact h
  | k + 9, h => trivial
theorem updN {L : Nat → Bool} {i j : Nat} (h : j ≠ i) : upd L i j = L j := by unfold upd; rw [if_neg h]
theorem wng_upd {w : World} {x : He} {L : Nat → Bool} {W : World} (i : Nat) (h7 : i ≠ 7) (h9 : i ≠ 9) (h2 : i ≠ 2) (h5 : i ≠ 5) (h : WnG w x L W) : WnG w x (upd L i) W := by
  obtain ⟨⟨u2, u3, k1, k2, k3, k4, k5⟩, g2, g3, g4, g5, g6, g7, g8⟩ := h
  unfold WnG
  rw [updN (Ne.symm h7), updN (Ne.symm h9), updN (Ne.symm h2), updN (Ne.symm h5)]
  exact ⟨⟨u2, u3, k1, k2, k3, k4, k5⟩, g2, g3, g4, fun e => upd_more (g5 e), fun e => upd_more (g6 e), g7, g8⟩
theorem wng_call {w : World} {x : He} {L : Nat → Bool} {W W' : World} (h : WnG w x L W) (hb : Below W.heap.size W W') : WnG w x L W' := by
  obtain ⟨⟨u2, u3, k1, k2, k3, k4, k5⟩, g2, g3, g4, g5, g6, g7, g8⟩ := h
  exact ⟨⟨u2, u3, k1.below hb k1.lt, k2, fun e => (k3 e).keep hb, k4, fun e => (k5 e).keep hb⟩, g2.below hb g2.lt, g3.trans (hb.mono g3.size), Nat.le_trans g4 hb.size, g5, g6, g7, g8⟩
theorem own_results {w : World} {R : Nat} {u0 u1 u4 : Int} {a b : Option Addr} {n c m d : Nat} (h : Ek w R #[.int .i64 u0, .int .i64 u1, .slice a n c, .slice b m d, .int .i64 u4] 27) (ts : Array Value) (h2 : ts.getD 2 undef = .pointer (some ⟨R, 0, none⟩)) :
    (results Try.f28 ts).run Try.prog w = .ok (.agg #[.int .i64 u0, .int .i64 u1, .slice a n c, .slice b m d, .int .i64 u4]) w := by
  have c0 := h.cell (o := 0) rfl
  have c1 := h.cell (o := 1) rfl
  have c2 := h.cell (o := 2) rfl
  have c3 := h.cell (o := 3) rfl
  have c4 := h.cell (o := 4) rfl
  rw [Array.getD_eq_getD_getElem?] at h2
  simp [results, Try.results28, go_sem, c0, c1, c2, c3, c4, h2]
/-- What own answers. -/
def OwnR (x : He) (w : World) (e : Ending) (w' : World) : Prop := ∃ y : He, e = .returned y.v ∧ y.a = x.a ∧ y.ok w' ∧ (∀ p, y.fa = some p → w.heap.size ≤ p.block ∧ p.block < w'.heap.size) ∧ (∀ p, y.ga = some p → w.heap.size ≤ p.block ∧ p.block < w'.heap.size) ∧ Below w.heap.size w w'
set_option maxRecDepth 100000 in
set_option maxHeartbeats 2000000 in
theorem own_any (x : He) (w : World) (hx : x.ok w) (hsm : x.sm) : Calls Try.prog 28 #[x.v] w (OwnR x w) := by
  have HF := hide (fun W (hW : Below w.heap.size w W) => bclone_any x.fa x.fz.length x.fc x.fz W (hx.1.1.below hW (Nat.le_refl _)) hsm.1)
  have HG := hide (fun W (hW : Below w.heap.size w W) => bclone_any x.ga x.gz.length x.gc x.gz W (hx.2.1.1.below hW (Nat.le_refl _)) hsm.2)
  have HX := hide hx.2.2
  have HLF := hide hx.1.2
  have HLG := hide hx.2.1.2
  have X := #[Value.int .i64 x.N, .int .i64 x.L, .slice x.fa x.fz.length x.fc, .slice x.ga x.gz.length x.gc, .int .i64 x.M]
  have A1 := (Below.refl w.heap.size w).alloc (Nat.le_refl _) (Obj.cells #[.int .i64 x.N, .int .i64 x.L, .slice x.fa x.fz.length x.fc, .slice x.ga x.gz.length x.gc, .int .i64 x.M] 27)
  have A2 := A1.alloc (by simp) (Obj.cells #[.int .i64 0, .int .i64 0, .slice none 0 0, .slice none 0 0, .int .i64 0] 27)
  have e1 := ek_old (ek_new w #[.int .i64 x.N, .int .i64 x.L, .slice x.fa x.fz.length x.fc, .slice x.ga x.gz.length x.gc, .int .i64 x.M] 27) (Obj.cells #[.int .i64 0, .int .i64 0, .slice none 0 0, .slice none 0 0, .int .i64 0] 27)
  have e2 := ek_new (w.alloc (Obj.cells #[.int .i64 x.N, .int .i64 x.L, .slice x.fa x.fz.length x.fc, .slice x.ga x.gz.length x.gc, .int .i64 x.M] 27)) #[.int .i64 0, .int .i64 0, .slice none 0 0, .slice none 0 0, .int .i64 0] 27
  rw [show (w.alloc (Obj.cells #[.int .i64 x.N, .int .i64 x.L, .slice x.fa x.fz.length x.fc, .slice x.ga x.gz.length x.gc, .int .i64 x.M] 27)).heap.size = w.heap.size + 1 by simp] at e2
  have HST := hide (show WnG w x (fun _ => false) ((w.alloc (Obj.cells #[.int .i64 x.N, .int .i64 x.L, .slice x.fa x.fz.length x.fc, .slice x.ga x.gz.length x.gc, .int .i64 x.M] 27)).alloc (Obj.cells #[.int .i64 0, .int .i64 0, .slice none 0 0, .slice none 0 0, .int .i64 0] 27)) from
    ⟨⟨_, _, e1, fun _ => rfl, fun h => (by cases h), fun _ => rfl, fun h => (by cases h)⟩, e2, A2, by simp, fun h => (by cases h), fun h => (by cases h), fun h => (by cases h), fun h => (by cases h)⟩)
  clear hx A1 A2 e1 e2 X
  unfold He.v
  go_enter Try.func28, Try.ntmps28
  go_wp2_with fail
  generalize ((w.alloc (Obj.cells #[.int .i64 x.N, .int .i64 x.L, .slice x.fa x.fz.length x.fc, .slice x.ga x.gz.length x.gc, .int .i64 x.M] 27)).alloc (Obj.cells #[.int .i64 0, .int .i64 0, .slice none 0 0, .slice none 0 0, .int .i64 0] 27)) = wa at *
  refine region_si (WnT w x) (WnG w x) (by kernel_rfl) (by kernel_rfl) (by kernel_rfl) ?start ?step ?fin
  case start => exact wng_call HST.out (Below.refl _ wa).drew
  case step =>
    intro L a W j hI hj hLj hw
    have hj2 : j < 10 := hj
    rcases (show j = 0 ∨ j = 1 ∨ j = 2 ∨ j = 3 ∨ j = 4 ∨ j = 5 ∨ j = 6 ∨ j = 7 ∨ j = 8 ∨ j = 9 by omega) with rfl | rfl | rfl | rfl | rfl | rfl | rfl | rfl | rfl | rfl
    · have e0 := hI.kept 1 _ (by decide +kernel) rfl
      refine hI.pure (by kernel_rfl) (by decide +kernel) (i := 0) (d := 3) rfl rfl rfl (v := .pointer (some ⟨w.heap.size, 2, none⟩)) (rfl) (fun j u _ _ h => wnt_keep (fun _ _ h => h) j u h) (wng_upd 0 (by decide) (by decide) (by decide) (by decide) hI.g) ?_
      intro K hKK
      go_simp
      exact hKK
    · obtain ⟨_, e0, rfl⟩ := hI.val 0 3 (by decide +kernel) (hw 0 (by kernel_rfl)) (by kernel_rfl)
      have k7 : L 7 = false := by
        cases e : L 7 with
        | false => rfl
        | true => have := hI.g.2.2.2.2.1 (hI.g.2.2.2.2.2.2.1 e); rw [hLj] at this; cases this
      obtain ⟨u2, u3, k1, k2, _, k4, _⟩ := hI.g.1
      have k8 := k2 k7
      have k9 := k1.cell (o := 2) rfl
      rw [k8] at k9
      clear k1 k2 k4 k8
      refine hI.pure (by kernel_rfl) (by decide +kernel) (i := 1) (d := 4) rfl rfl rfl (v := .slice x.fa x.fz.length x.fc) (rfl) (fun j u _ _ h => wnt_keep (fun _ _ h => h) j u h) (wng_upd 1 (by decide) (by decide) (by decide) (by decide) hI.g) ?_
      intro K hKK
      go_simp
      exact hKK
    · obtain ⟨_, e0, rfl⟩ := hI.val 1 4 (by decide +kernel) (hw 1 (by kernel_rfl)) (by kernel_rfl)
      refine hI.more (by kernel_rfl) (by decide +kernel) (i := 2) (d := 5) rfl rfl rfl ?_
      intro K hKK
      have hL1 : L 1 = true := hw 1 (by kernel_rfl)
      have HW := hI.g
      go_simp
      refine (HF.out W HW.2.2.1).mono ?_
      rintro e W' ⟨a', c', rfl, hbs, hfar, hb'⟩
      refine hKK (.slice a' x.fz.length c') W' ⟨a', c', rfl, hbs, fun p e => ⟨Nat.le_trans HW.2.2.2.1 (hfar p e).1, (hfar p e).2⟩⟩ (fun j u _ _ h => wnt_keep (fun _ _ h => h.keep hb') j u h) ?_
      obtain ⟨q1, q2, q3, q4, q5, q6, q7, q8⟩ := wng_call HW hb'
      refine ⟨?_, q2, q3, q4, fun e => ?_, fun e => ?_, fun e => ?_, fun e => ?_⟩
      · rw [updN (by decide), updN (by decide)]; exact q1
      · exact upd_more hL1
      · rw [updN (by decide)] at e; exact upd_more (q6 e)
      · rw [updN (by decide)] at e; exact upd_more (q7 e)
      · rw [updN (by decide)] at e; exact upd_more (q8 e)
    · have e0 := hI.kept 1 _ (by decide +kernel) rfl
      refine hI.pure (by kernel_rfl) (by decide +kernel) (i := 3) (d := 6) rfl rfl rfl (v := .pointer (some ⟨w.heap.size, 3, none⟩)) (rfl) (fun j u _ _ h => wnt_keep (fun _ _ h => h) j u h) (wng_upd 3 (by decide) (by decide) (by decide) (by decide) hI.g) ?_
      intro K hKK
      go_simp
      exact hKK
    · obtain ⟨_, e0, rfl⟩ := hI.val 3 6 (by decide +kernel) (hw 3 (by kernel_rfl)) (by kernel_rfl)
      have k7 : L 9 = false := by
        cases e : L 9 with
        | false => rfl
        | true => have := hI.g.2.2.2.2.2.1 (hI.g.2.2.2.2.2.2.2 e); rw [hLj] at this; cases this
      obtain ⟨u2, u3, k1, k2, _, k4, _⟩ := hI.g.1
      have k8 := k4 k7
      have k9 := k1.cell (o := 3) rfl
      rw [k8] at k9
      clear k1 k2 k4 k8
      refine hI.pure (by kernel_rfl) (by decide +kernel) (i := 4) (d := 7) rfl rfl rfl (v := .slice x.ga x.gz.length x.gc) (rfl) (fun j u _ _ h => wnt_keep (fun _ _ h => h) j u h) (wng_upd 4 (by decide) (by decide) (by decide) (by decide) hI.g) ?_
      intro K hKK
      go_simp
      exact hKK
    · obtain ⟨_, e0, rfl⟩ := hI.val 4 7 (by decide +kernel) (hw 4 (by kernel_rfl)) (by kernel_rfl)
      refine hI.more (by kernel_rfl) (by decide +kernel) (i := 5) (d := 8) rfl rfl rfl ?_
      intro K hKK
      have hL4 : L 4 = true := hw 4 (by kernel_rfl)
      have HW := hI.g
      go_simp
      refine (HG.out W HW.2.2.1).mono ?_
      rintro e W' ⟨a', c', rfl, hbs, hfar, hb'⟩
      refine hKK (.slice a' x.gz.length c') W' ⟨a', c', rfl, hbs, fun p e => ⟨Nat.le_trans HW.2.2.2.1 (hfar p e).1, (hfar p e).2⟩⟩ (fun j u _ _ h => wnt_keep (fun _ _ h => h.keep hb') j u h) ?_
      obtain ⟨q1, q2, q3, q4, q5, q6, q7, q8⟩ := wng_call HW hb'
      refine ⟨?_, q2, q3, q4, fun e => ?_, fun e => ?_, fun e => ?_, fun e => ?_⟩
      · rw [updN (by decide), updN (by decide)]; exact q1
      · rw [updN (by decide)] at e; exact upd_more (q5 e)
      · exact upd_more hL4
      · rw [updN (by decide)] at e; exact upd_more (q7 e)
      · rw [updN (by decide)] at e; exact upd_more (q8 e)
    · have e0 := hI.kept 1 _ (by decide +kernel) rfl
      refine hI.pure (by kernel_rfl) (by decide +kernel) (i := 6) (d := 9) rfl rfl rfl (v := .pointer (some ⟨w.heap.size, 2, none⟩)) (rfl) (fun j u _ _ h => wnt_keep (fun _ _ h => h) j u h) (wng_upd 6 (by decide) (by decide) (by decide) (by decide) hI.g) ?_
      intro K hKK
      go_simp
      exact hKK
    · obtain ⟨_, e0, rfl⟩ := hI.val 6 9 (by decide +kernel) (hw 6 (by kernel_rfl)) (by kernel_rfl)
      obtain ⟨_, e1, a2, c2, rfl, hbs, hfar⟩ := hI.val 2 5 (by decide +kernel) (hw 2 (by kernel_rfl)) (by kernel_rfl)
      refine hI.store (i := 7) (by decide +kernel) rfl rfl rfl ?_
      intro K hKK
      obtain ⟨⟨u2, u3, k1, k2, k3, k4, k5⟩, g2, g3, g4, g5, g6, g7, g8⟩ := hI.g
      have hL2 : L 2 = true := hw 2 (by kernel_rfl)
      have k6 : W.cell? ⟨w.heap.size, 2, none⟩ = some u2 := k1.cell rfl
      have k7 := k1.free 2
      have hgd : Gd (w.heap.size + 2) W (.slice a2 x.fz.length c2) x.fz := ⟨_, _, rfl, hbs, hfar⟩
      have hg := fgb_set W ⟨w.heap.size, 2, none⟩ (.slice a2 x.fz.length c2)
      have hkk : ∀ v zs, Gd (w.heap.size + 2) W v zs → Gd (w.heap.size + 2) (W.setCell ⟨w.heap.size, 2, none⟩ (.slice a2 x.fz.length c2)) v zs := fun v zs h => h.set (by omega)
      have hR := hKK (W.setCell ⟨w.heap.size, 2, none⟩ (.slice a2 x.fz.length c2)) (fun j e u _ _ _ _ h => wnt_keep hkk j u h) (by
        refine ⟨⟨_, _, k1.set 2 _, ?_, ?_, ?_, ?_⟩, g2.gb hg (by intro e; have := Option.some.inj e; simp only at this; omega), g3.grown hg g3.size (fun q hq => by cases hq; exact Nat.le_refl _), Nat.le_trans g4 hg.size, fun e => ?_, fun e => ?_, fun e => ?_, fun e => ?_⟩
        · intro e; rw [upd_same] at e; cases e
        · intro _; exact hkk _ _ hgd
        · intro e; rw [updN (by decide)] at e; exact k4 e
        · intro e; rw [updN (by decide)] at e; exact hkk _ _ (k5 e)
        · rw [updN (by decide)] at e; exact upd_more (g5 e)
        · rw [updN (by decide)] at e; exact upd_more (g6 e)
        · exact upd_more hL2
        · rw [updN (by decide)] at e; exact upd_more (g8 e))
      clear hKK k1 k2 k3 k4 k5 g2 g3 g4 g5 g6 g7 g8 hkk hg hgd hbs hfar
      go_simp
      exact hR
    · have e0 := hI.kept 1 _ (by decide +kernel) rfl
      refine hI.pure (by kernel_rfl) (by decide +kernel) (i := 8) (d := 10) rfl rfl rfl (v := .pointer (some ⟨w.heap.size, 3, none⟩)) (rfl) (fun j u _ _ h => wnt_keep (fun _ _ h => h) j u h) (wng_upd 8 (by decide) (by decide) (by decide) (by decide) hI.g) ?_
      intro K hKK
      go_simp
      exact hKK
    · obtain ⟨_, e0, rfl⟩ := hI.val 8 10 (by decide +kernel) (hw 8 (by kernel_rfl)) (by kernel_rfl)
      obtain ⟨_, e1, a5, c5, rfl, hbs, hfar⟩ := hI.val 5 8 (by decide +kernel) (hw 5 (by kernel_rfl)) (by kernel_rfl)
      refine hI.store (i := 9) (by decide +kernel) rfl rfl rfl ?_
      intro K hKK
      obtain ⟨⟨u2, u3, k1, k2, k3, k4, k5⟩, g2, g3, g4, g5, g6, g7, g8⟩ := hI.g
      have hL5 : L 5 = true := hw 5 (by kernel_rfl)
      have k6 : W.cell? ⟨w.heap.size, 3, none⟩ = some u3 := k1.cell rfl
      have k7 := k1.free 3
      have hgd : Gd (w.heap.size + 2) W (.slice a5 x.gz.length c5) x.gz := ⟨_, _, rfl, hbs, hfar⟩
      have hg := fgb_set W ⟨w.heap.size, 3, none⟩ (.slice a5 x.gz.length c5)
      have hkk : ∀ v zs, Gd (w.heap.size + 2) W v zs → Gd (w.heap.size + 2) (W.setCell ⟨w.heap.size, 3, none⟩ (.slice a5 x.gz.length c5)) v zs := fun v zs h => h.set (by omega)
      have hR := hKK (W.setCell ⟨w.heap.size, 3, none⟩ (.slice a5 x.gz.length c5)) (fun j e u _ _ _ _ h => wnt_keep hkk j u h) (by
        refine ⟨⟨_, _, k1.set 3 _, ?_, ?_, ?_, ?_⟩, g2.gb hg (by intro e; have := Option.some.inj e; simp only at this; omega), g3.grown hg g3.size (fun q hq => by cases hq; exact Nat.le_refl _), Nat.le_trans g4 hg.size, fun e => ?_, fun e => ?_, fun e => ?_, fun e => ?_⟩
        · intro e; rw [updN (by decide)] at e; exact k2 e
        · intro e; rw [updN (by decide)] at e; exact hkk _ _ (k3 e)
        · intro e; rw [upd_same] at e; cases e
        · intro _; exact hkk _ _ hgd
        · rw [updN (by decide)] at e; exact upd_more (g5 e)
        · rw [updN (by decide)] at e; exact upd_more (g6 e)
        · rw [updN (by decide)] at e; exact upd_more (g7 e)
        · exact upd_more hL5)
      clear hKK k1 k2 k3 k4 k5 g2 g3 g4 g5 g6 g7 g8 hkk hg hgd hbs hfar
      go_simp
      exact hR
  case fin =>
    intro L a W hI hall
    obtain ⟨_, s0, rfl⟩ := hI.val 0 3 (by decide +kernel) (hall 0 (by decide +kernel)) (by kernel_rfl)
    obtain ⟨_, s1, rfl⟩ := hI.val 1 4 (by decide +kernel) (hall 1 (by decide +kernel)) (by kernel_rfl)
    obtain ⟨_, s2, a2, c2, rfl, _, _⟩ := hI.val 2 5 (by decide +kernel) (hall 2 (by decide +kernel)) (by kernel_rfl)
    obtain ⟨_, s3, rfl⟩ := hI.val 3 6 (by decide +kernel) (hall 3 (by decide +kernel)) (by kernel_rfl)
    obtain ⟨_, s4, rfl⟩ := hI.val 4 7 (by decide +kernel) (hall 4 (by decide +kernel)) (by kernel_rfl)
    obtain ⟨_, s5, a5, c5, rfl, _, _⟩ := hI.val 5 8 (by decide +kernel) (hall 5 (by decide +kernel)) (by kernel_rfl)
    obtain ⟨_, s6, rfl⟩ := hI.val 6 9 (by decide +kernel) (hall 6 (by decide +kernel)) (by kernel_rfl)
    obtain ⟨_, s8, rfl⟩ := hI.val 8 10 (by decide +kernel) (hall 8 (by decide +kernel)) (by kernel_rfl)
    have hfr := si_frame hI [(3, .pointer (some ⟨w.heap.size, 2, none⟩)), (4, .slice x.fa x.fz.length x.fc), (5, .slice a2 x.fz.length c2), (6, .pointer (some ⟨w.heap.size, 3, none⟩)), (7, .slice x.ga x.gz.length x.gc), (8, .slice a5 x.gz.length c5), (9, .pointer (some ⟨w.heap.size, 2, none⟩)), (10, .pointer (some ⟨w.heap.size, 3, none⟩))] (by kernel_rfl) (List.forall_mem_cons.2 ⟨s0, List.forall_mem_cons.2 ⟨s1, List.forall_mem_cons.2 ⟨s2, List.forall_mem_cons.2 ⟨s3, List.forall_mem_cons.2 ⟨s4, List.forall_mem_cons.2 ⟨s5, List.forall_mem_cons.2 ⟨s6, List.forall_mem_cons.2 ⟨s8, List.forall_mem_nil _⟩⟩⟩⟩⟩⟩⟩⟩)
    obtain ⟨⟨u2, u3, k1, _, k3, _, k5⟩, g2, g3, g4, _⟩ := hI.g
    obtain ⟨fa, fc, rfl, hf, hff⟩ := k3 (hall 7 (by decide +kernel))
    obtain ⟨ga, gc, rfl, hg, hgf⟩ := k5 (hall 9 (by decide +kernel))
    have HK := hide k1
    have HZ := hide g2
    have HB := hide g3
    have HSZ := hide g4
    have HFF := hide (And.intro hf hff)
    have HGG := hide (And.intro hg hgf)
    rw [hfr]
    clear hfr hI hall k1 k3 k5 g2 g3 g4 hf hff hg hgf s0 s1 s2 s3 s4 s5 s6 s8
    simp only [List.foldl, List.setIfInBounds_toArray, List.set_cons_zero, List.set_cons_succ]
    have c0 := HK.out.cell (o := 0) rfl
    have c1 := HK.out.cell (o := 1) rfl
    have c2 := HK.out.cell (o := 2) rfl
    have c3 := HK.out.cell (o := 3) rfl
    have c4 := HK.out.cell (o := 4) rfl
    have z0 := HZ.out.cell (o := 0) rfl
    have y0 := HZ.out.free 0
    have z1 := HZ.out.cell (o := 1) rfl
    have y1 := HZ.out.free 1
    have z2 := HZ.out.cell (o := 2) rfl
    have y2 := HZ.out.free 2
    have z3 := HZ.out.cell (o := 3) rfl
    have y3 := HZ.out.free 3
    have z4 := HZ.out.cell (o := 4) rfl
    have y4 := HZ.out.free 4
    go_wp2
    have hset := ((((HZ.out.set 0 (.int .i64 x.N)).set 1 (.int .i64 x.L)).set 2 (.slice fa x.fz.length fc)).set 3 (.slice ga x.gz.length gc)).set 4 (.int .i64 x.M)
    have hgr := ((((fgb_set W ⟨w.heap.size + 1, 0, none⟩ (.int .i64 x.N)).trans (fgb_set _ ⟨w.heap.size + 1, 1, none⟩ (.int .i64 x.L))).trans (fgb_set _ ⟨w.heap.size + 1, 2, none⟩ (.slice fa x.fz.length fc))).trans (fgb_set _ ⟨w.heap.size + 1, 3, none⟩ (.slice ga x.gz.length gc))).trans (fgb_set _ ⟨w.heap.size + 1, 4, none⟩ (.int .i64 x.M))
    refine bodyPost_ret (own_results hset _ rfl) rfl ?_
    refine ⟨⟨x.N, x.L, fa, fc, x.fz, ga, gc, x.gz, x.M⟩, rfl, rfl, ⟨⟨HFF.out.1.gb hgr (fun p e e2 => by have := (HFF.out.2 p e).1; have := Option.some.inj e2; simp only at this; omega), HLF.out⟩, ⟨HGG.out.1.gb hgr (fun p e e2 => by have := (HGG.out.2 p e).1; have := Option.some.inj e2; simp only at this; omega), HLG.out⟩, HX.out⟩, fun p e => ?_, fun p e => ?_, HB.out.grown hgr HB.out.size (fun q hq => by cases hq; show w.heap.size ≤ w.heap.size + 1; omega)⟩
    · have := HFF.out.2 p e; exact ⟨by omega, Nat.lt_of_lt_of_le this.2 hgr.size⟩
    · have := HGG.out.2 p e; exact ⟨by omega, Nat.lt_of_lt_of_le this.2 hgr.size⟩

end Go.Proofs.Ytcbphalhjajapaa.Clep
