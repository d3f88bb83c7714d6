/- What edit.Whole does when called (a walk over the translated program): for any View of few files. -/
import Derived.Test.YtgopcaemgcnapaaESamePV
import Derived.Test.YtgopcaemgcnapaaEInv
namespace Go.Proofs.Ytgopcaemgcnapaa.Clep
open Go.RowKit
set_option linter.unusedVariables false
set_option maxRecDepth 10000

def wholeE (V : Vw) : Ed := ⟨[], V.f, V.lg, V.fl, V.ct, V.at9, V.ls⟩
theorem whole_results {w : World} {R : Nat} {d v : Value} {A B C D E : Int} (h : Ek w R #[d, v, .int .i64 A, .int .u64 B, .int .u64 C, .int .u64 D, .int .u64 E] 31) (ts : Array Value) (h2 : ts.getD 2 undef = .pointer (some ⟨R, 0, none⟩)) :
    (results Try.f25 ts).run Try.prog w = .ok (.agg #[d, v, .int .i64 A, .int .u64 B, .int .u64 C, .int .u64 D, .int .u64 E]) w := by
  have c0 := h.cell (o := 0) rfl
  have c1 := h.cell (o := 1) rfl
  have c2 := h.cell (o := 2) rfl
  have c3 := h.cell (o := 3) rfl
  have c4 := h.cell (o := 4) rfl
  have c5 := h.cell (o := 5) rfl
  have c6 := h.cell (o := 6) rfl
  rw [Array.getD_eq_getD_getElem?] at h2
  simp [results, Try.results25, go_sem, c0, c1, c2, c3, c4, c5, c6, h2]
/-- Whole's answer. -/
def WhR (V : Vw) (w : World) (e : Ending) (w' : World) : Prop := ∃ a c, e = .returned (edV none 0 0 a V.f.length c (wholeE V)) ∧ c ≤ 9223372036854775807 ∧ Fs w' a V.f.length c V.f ∧ Below w.heap.size w w'
/-- What each slot of Whole's region holds. -/
def WTh (B : Nat) (fa : Option Addr) (fn fc : Nat) (l : List Fi) (lg fl ct at9 ls : Int) : (Nat → Bool) → Nat → Value → World → Prop := fun _ i v W => match i with
  | 0 => v = .pointer (some ⟨B, 1, none⟩)
  | 1 => v = .slice fa fn fc
  | 2 => ∃ a c, v = .slice a l.length c ∧ c ≤ 9223372036854775807 ∧ Fs W a l.length c l ∧ (∀ x, a = some x → B + 2 ≤ x.block)
  | 3 => v = .pointer (some ⟨B, 0, none⟩)
  | 4 => v = .int .i64 lg
  | 5 => v = .pointer (some ⟨B, 2, none⟩)
  | 6 => v = .int .u64 fl
  | 7 => v = .pointer (some ⟨B, 3, none⟩)
  | 8 => v = .int .u64 ct
  | 9 => v = .pointer (some ⟨B, 4, none⟩)
  | 10 => v = .int .u64 at9
  | 11 => v = .pointer (some ⟨B, 5, none⟩)
  | 12 => v = .int .u64 ls
  | 13 => ∃ a c, v = .agg #[.slice none 0 0, .slice a l.length c, .int .i64 lg, .int .u64 fl, .int .u64 ct, .int .u64 at9, .int .u64 ls] ∧ c ≤ 9223372036854775807 ∧ Fs W a l.length c l ∧ (∀ x, a = some x → B + 2 ≤ x.block)
  | _ => True
/-- What the memory holds meanwhile. -/
def WG (w : World) (B : Nat) (fa : Option Addr) (fn fc : Nat) (l : List Fi) (lg fl ct at9 ls : Int) : (Nat → Bool) → World → Prop := fun L W => Ek W B #[.int .i64 lg, .slice fa fn fc, .int .u64 fl, .int .u64 ct, .int .u64 at9, .int .u64 ls] 26 ∧ Below B w W ∧ (L 14 = false → Ek W (B + 1) #[.slice none 0 0, .slice none 0 0, .int .i64 0, .int .u64 0, .int .u64 0, .int .u64 0, .int .u64 0] 31) ∧
  (L 14 = true → ∃ a c, Ek W (B + 1) #[.slice none 0 0, .slice a l.length c, .int .i64 lg, .int .u64 fl, .int .u64 ct, .int .u64 at9, .int .u64 ls] 31 ∧ c ≤ 9223372036854775807 ∧ Fs W a l.length c l) ∧ B + 2 ≤ W.heap.size
theorem wg_upd {w : World} {B : Nat} {fa : Option Addr} {fn fc : Nat} {l : List Fi} {lg fl ct at9 ls : Int} {L : Nat → Bool} {W : World} (i : Nat) (hi : 14 ≠ i) (h : WG w B fa fn fc l lg fl ct at9 ls L W) : WG w B fa fn fc l lg fl ct at9 ls (upd L i) W := by
  unfold WG at *
  rwa [show upd L i 14 = L 14 from by unfold upd; rw [if_neg hi]]
theorem wg_below {w : World} {B : Nat} {fa : Option Addr} {fn fc : Nat} {l : List Fi} {lg fl ct at9 ls : Int} {L : Nat → Bool} {W W' : World} (h : WG w B fa fn fc l lg fl ct at9 ls L W) (hb : Below W.heap.size W W') : WG w B fa fn fc l lg fl ct at9 ls L W' :=
  ⟨h.1.below hb h.1.lt, h.2.1.trans (hb.mono (by have := h.2.2.2.2; omega)), fun e => (h.2.2.1 e).below hb (h.2.2.1 e).lt, fun e => by
    obtain ⟨a, c, h1, h2, h3⟩ := h.2.2.2.1 e
    exact ⟨a, c, h1.below hb h1.lt, h2, h3.below hb (Nat.le_refl _)⟩, Nat.le_trans h.2.2.2.2 hb.size⟩
theorem wth_keep (B : Nat) (fa : Option Addr) (fn fc : Nat) (l : List Fi) (lg fl ct at9 ls : Int) (L L' : Nat → Bool) (W W' : World) (hk : ∀ (a : Option Addr) (c : Nat), Fs W a l.length c l → (∀ x, a = some x → B + 2 ≤ x.block) → Fs W' a l.length c l) : ∀ j u, WTh B fa fn fc l lg fl ct at9 ls L j u W → WTh B fa fn fc l lg fl ct at9 ls L' j u W' := by
  intro j u h
  match j, h with
  | 2, ⟨a, c, h1, h2, h3, h4⟩ => exact ⟨a, c, h1, h2, hk a c h3 h4, h4⟩
  | 13, ⟨a, c, h1, h2, h3, h4⟩ => exact ⟨a, c, h1, h2, hk a c h3 h4, h4⟩
  | 0, h => exact h
  | 1, h => exact h
  | 3, h => exact h
  | 4, h => exact h
  | 5, h => exact h
  | 6, h => exact h
  | 7, h => exact h
  | 8, h => exact h
  | 9, h => exact h
  | 10, h => exact h
  | 11, h => exact h
  | 12, h => exact h
  | k + 14, h => trivial
theorem egrow {W W1 : World} {R k : Nat} {u : Value} (h : W.grownBy W1 (some R)) : W.grownBy (W1.setCell ⟨R, k, none⟩ u) (some R) := h.trans (fgb_set W1 ⟨R, k, none⟩ u)
theorem bgrow {w W W1 : World} {R : Nat} (hb : Below w.heap.size w W) (h : W.grownBy W1 (some R)) (hR : w.heap.size ≤ R) : Below w.heap.size w W1 := hb.grown h hb.size (fun k hk => by cases hk; exact hR)
set_option maxHeartbeats 1000000 in
theorem whole_any (fa : Option Addr) (fn fc : Nat) (V : Vw) (w : World) (h : Fs w fa fn fc V.f) (hn : fn ≤ 100000) :
    Calls Try.prog 25 #[vwV fa fn fc V] w (WhR V w) := by
  have hl := h.1
  have H0 := hide (fun W (hW : Below w.heap.size w W) => h.below hW (Nat.le_refl _))
  have HW := hide h.2.2.1
  have HR := hide (show ∀ (a : Option Addr) (c : Nat) (W : World), c ≤ 9223372036854775807 → Fs W a V.f.length c V.f → Below w.heap.size w W → WhR V w (.returned (edV none 0 0 a V.f.length c (wholeE V))) W from fun a c W h1 h2 h3 => ⟨a, c, rfl, h1, h2, h3⟩)
  generalize WhR V w = R at *
  obtain ⟨lg, l, fl, ct, at9, ls⟩ := V
  unfold vwV
  unfold edV wholeE at HR
  simp only at hl H0 HR HW ⊢
  clear h
  have A0 := (Below.refl w.heap.size w).alloc (Nat.le_refl _) (Obj.cells #[.int .i64 lg, .slice fa fn fc, .int .u64 fl, .int .u64 ct, .int .u64 at9, .int .u64 ls] 26)
  have HB0 := hide A0
  have hst := hide (show Ek ((w.alloc (Obj.cells #[.int .i64 lg, .slice fa fn fc, .int .u64 fl, .int .u64 ct, .int .u64 at9, .int .u64 ls] 26)).alloc (Obj.cells #[.slice none 0 0, .slice none 0 0, .int .i64 0, .int .u64 0, .int .u64 0, .int .u64 0, .int .u64 0] 31)) w.heap.size #[.int .i64 lg, .slice fa fn fc, .int .u64 fl, .int .u64 ct, .int .u64 at9, .int .u64 ls] 26 ∧ Ek ((w.alloc (Obj.cells #[.int .i64 lg, .slice fa fn fc, .int .u64 fl, .int .u64 ct, .int .u64 at9, .int .u64 ls] 26)).alloc (Obj.cells #[.slice none 0 0, .slice none 0 0, .int .i64 0, .int .u64 0, .int .u64 0, .int .u64 0, .int .u64 0] 31)) (w.heap.size + 1) #[.slice none 0 0, .slice none 0 0, .int .i64 0, .int .u64 0, .int .u64 0, .int .u64 0, .int .u64 0] 31 ∧ Below w.heap.size w ((w.alloc (Obj.cells #[.int .i64 lg, .slice fa fn fc, .int .u64 fl, .int .u64 ct, .int .u64 at9, .int .u64 ls] 26)).alloc (Obj.cells #[.slice none 0 0, .slice none 0 0, .int .i64 0, .int .u64 0, .int .u64 0, .int .u64 0, .int .u64 0] 31)) ∧ w.heap.size + 2 ≤ ((w.alloc (Obj.cells #[.int .i64 lg, .slice fa fn fc, .int .u64 fl, .int .u64 ct, .int .u64 at9, .int .u64 ls] 26)).alloc (Obj.cells #[.slice none 0 0, .slice none 0 0, .int .i64 0, .int .u64 0, .int .u64 0, .int .u64 0, .int .u64 0] 31)).heap.size from
    ⟨ek_old (ek_new w _ _) _, by have := ek_new (w.alloc (Obj.cells #[.int .i64 lg, .slice fa fn fc, .int .u64 fl, .int .u64 ct, .int .u64 at9, .int .u64 ls] 26)) #[.slice none 0 0, .slice none 0 0, .int .i64 0, .int .u64 0, .int .u64 0, .int .u64 0, .int .u64 0] 31; rw [show (w.alloc (Obj.cells #[.int .i64 lg, .slice fa fn fc, .int .u64 fl, .int .u64 ct, .int .u64 at9, .int .u64 ls] 26)).heap.size = w.heap.size + 1 from by simp] at this; exact this, A0.alloc A0.size _, by simp⟩)
  have HC := hide (show ∀ W, Below w.heap.size w W → Calls Try.prog 52 #[.slice fa fn fc] W fun e w' => ∃ a c, e = .returned (.slice a l.length c) ∧ c ≤ 9223372036854775807 ∧ Fs w' a l.length c l ∧ (∀ x, a = some x → W.heap.size ≤ x.block) ∧ Below W.heap.size W w' from fun W hW => (fclone_any fa fn fc l W (H0.out W hW) hn).mono fun e w' ⟨v, he, ho, hb⟩ => by
    obtain ⟨a, c, rfl, hc, hf, hx⟩ := ownF_fs ho HW.out
    exact ⟨a, c, he, hc, hf, hx, hb⟩)
  have HL := hide hl
  clear A0 hl
  go_enter Try.func25, Try.ntmps25
  go_wp2_with fail
  generalize hwa : ((w.alloc (Obj.cells #[.int .i64 lg, .slice fa fn fc, .int .u64 fl, .int .u64 ct, .int .u64 at9, .int .u64 ls] 26)).alloc (Obj.cells #[.slice none 0 0, .slice none 0 0, .int .i64 0, .int .u64 0, .int .u64 0, .int .u64 0, .int .u64 0] 31)) = wa at *
  clear hwa HB0
  refine region_si (WTh w.heap.size fa fn fc l lg fl ct at9 ls) (WG w w.heap.size fa fn fc l lg fl ct at9 ls) (by kernel_rfl) (by kernel_rfl) (by kernel_rfl) ?start ?step ?fin
  case start => exact ⟨hst.out.1.drew, hst.out.2.2.1.drew, fun _ => hst.out.2.1.drew, fun h => (by cases h), hst.out.2.2.2⟩
  case step =>
    intro L a W i hI hi hLi hw
    have hi2 : i < 15 := hi
    rcases (show i = 0 ∨ i = 1 ∨ i = 2 ∨ i = 3 ∨ i = 4 ∨ i = 5 ∨ i = 6 ∨ i = 7 ∨ i = 8 ∨ i = 9 ∨ i = 10 ∨ i = 11 ∨ i = 12 ∨ i = 13 ∨ i = 14 by omega) with rfl | rfl | rfl | rfl | rfl | rfl | rfl | rfl | rfl | rfl | rfl | rfl | rfl | rfl | rfl
    · have e0 := hI.kept 1 _ (by decide +kernel) rfl
      refine hI.pure (by kernel_rfl) (by decide +kernel) (i := 0) (d := 3) rfl rfl rfl (v := .pointer (some ⟨w.heap.size, 1, none⟩)) (rfl) (fun _ _ _ _ h => h) (wg_upd 0 (by decide) hI.g) ?_
      intro K hKK
      go_simp
      exact hKK
    · obtain ⟨_, e0, rfl⟩ := hI.val 0 3 (by decide +kernel) (hw 0 (by kernel_rfl)) (by kernel_rfl)
      have hc : W.cell? ⟨w.heap.size, 1, none⟩ = some (.slice fa fn fc) := hI.g.1.cell rfl
      refine hI.pure (by kernel_rfl) (by decide +kernel) (i := 1) (d := 4) rfl rfl rfl (v := .slice fa fn fc) (rfl) (fun _ _ _ _ h => h) (wg_upd 1 (by decide) hI.g) ?_
      intro K hKK
      go_simp
      exact hKK
    · obtain ⟨_, e0, rfl⟩ := hI.val 1 4 (by decide +kernel) (hw 1 (by kernel_rfl)) (by kernel_rfl)
      refine hI.more (by kernel_rfl) (by decide +kernel) (i := 2) (d := 5) rfl rfl rfl ?_
      intro K hKK
      go_simp
      refine (HC.out W hI.g.2.1).mono ?_
      rintro e W' ⟨a', c', rfl, hc', hf', hx', hb'⟩
      exact hKK (.slice a' l.length c') W' ⟨a', c', rfl, hc', hf', fun x hx => by have := hx' x hx; have := hI.g.2.2.2.2; omega⟩ (fun j u _ _ h => wth_keep _ _ _ _ _ _ _ _ _ _ _ _ _ _ (fun a c h _ => h.below hb' (Nat.le_refl _)) j u h) (wg_upd 2 (by decide) (wg_below hI.g hb'))
    · have e0 := hI.kept 1 _ (by decide +kernel) rfl
      refine hI.pure (by kernel_rfl) (by decide +kernel) (i := 3) (d := 6) rfl rfl rfl (v := .pointer (some ⟨w.heap.size, 0, none⟩)) (rfl) (fun _ _ _ _ h => h) (wg_upd 3 (by decide) hI.g) ?_
      intro K hKK
      go_simp
      exact hKK
    · obtain ⟨_, e0, rfl⟩ := hI.val 3 6 (by decide +kernel) (hw 3 (by kernel_rfl)) (by kernel_rfl)
      have hc : W.cell? ⟨w.heap.size, 0, none⟩ = some (.int .i64 lg) := hI.g.1.cell rfl
      refine hI.pure (by kernel_rfl) (by decide +kernel) (i := 4) (d := 7) rfl rfl rfl (v := .int .i64 lg) (rfl) (fun _ _ _ _ h => h) (wg_upd 4 (by decide) hI.g) ?_
      intro K hKK
      go_simp
      exact hKK
    · have e0 := hI.kept 1 _ (by decide +kernel) rfl
      refine hI.pure (by kernel_rfl) (by decide +kernel) (i := 5) (d := 8) rfl rfl rfl (v := .pointer (some ⟨w.heap.size, 2, none⟩)) (rfl) (fun _ _ _ _ h => h) (wg_upd 5 (by decide) hI.g) ?_
      intro K hKK
      go_simp
      exact hKK
    · obtain ⟨_, e0, rfl⟩ := hI.val 5 8 (by decide +kernel) (hw 5 (by kernel_rfl)) (by kernel_rfl)
      have hc : W.cell? ⟨w.heap.size, 2, none⟩ = some (.int .u64 fl) := hI.g.1.cell rfl
      refine hI.pure (by kernel_rfl) (by decide +kernel) (i := 6) (d := 9) rfl rfl rfl (v := .int .u64 fl) (rfl) (fun _ _ _ _ h => h) (wg_upd 6 (by decide) hI.g) ?_
      intro K hKK
      go_simp
      exact hKK
    · have e0 := hI.kept 1 _ (by decide +kernel) rfl
      refine hI.pure (by kernel_rfl) (by decide +kernel) (i := 7) (d := 10) rfl rfl rfl (v := .pointer (some ⟨w.heap.size, 3, none⟩)) (rfl) (fun _ _ _ _ h => h) (wg_upd 7 (by decide) hI.g) ?_
      intro K hKK
      go_simp
      exact hKK
    · obtain ⟨_, e0, rfl⟩ := hI.val 7 10 (by decide +kernel) (hw 7 (by kernel_rfl)) (by kernel_rfl)
      have hc : W.cell? ⟨w.heap.size, 3, none⟩ = some (.int .u64 ct) := hI.g.1.cell rfl
      refine hI.pure (by kernel_rfl) (by decide +kernel) (i := 8) (d := 11) rfl rfl rfl (v := .int .u64 ct) (rfl) (fun _ _ _ _ h => h) (wg_upd 8 (by decide) hI.g) ?_
      intro K hKK
      go_simp
      exact hKK
    · have e0 := hI.kept 1 _ (by decide +kernel) rfl
      refine hI.pure (by kernel_rfl) (by decide +kernel) (i := 9) (d := 12) rfl rfl rfl (v := .pointer (some ⟨w.heap.size, 4, none⟩)) (rfl) (fun _ _ _ _ h => h) (wg_upd 9 (by decide) hI.g) ?_
      intro K hKK
      go_simp
      exact hKK
    · obtain ⟨_, e0, rfl⟩ := hI.val 9 12 (by decide +kernel) (hw 9 (by kernel_rfl)) (by kernel_rfl)
      have hc : W.cell? ⟨w.heap.size, 4, none⟩ = some (.int .u64 at9) := hI.g.1.cell rfl
      refine hI.pure (by kernel_rfl) (by decide +kernel) (i := 10) (d := 13) rfl rfl rfl (v := .int .u64 at9) (rfl) (fun _ _ _ _ h => h) (wg_upd 10 (by decide) hI.g) ?_
      intro K hKK
      go_simp
      exact hKK
    · have e0 := hI.kept 1 _ (by decide +kernel) rfl
      refine hI.pure (by kernel_rfl) (by decide +kernel) (i := 11) (d := 14) rfl rfl rfl (v := .pointer (some ⟨w.heap.size, 5, none⟩)) (rfl) (fun _ _ _ _ h => h) (wg_upd 11 (by decide) hI.g) ?_
      intro K hKK
      go_simp
      exact hKK
    · obtain ⟨_, e0, rfl⟩ := hI.val 11 14 (by decide +kernel) (hw 11 (by kernel_rfl)) (by kernel_rfl)
      have hc : W.cell? ⟨w.heap.size, 5, none⟩ = some (.int .u64 ls) := hI.g.1.cell rfl
      refine hI.pure (by kernel_rfl) (by decide +kernel) (i := 12) (d := 15) rfl rfl rfl (v := .int .u64 ls) (rfl) (fun _ _ _ _ h => h) (wg_upd 12 (by decide) hI.g) ?_
      intro K hKK
      go_simp
      exact hKK
    · obtain ⟨_, e0, a', c', rfl, hc', hf', hx'⟩ := hI.val 2 5 (by decide +kernel) (hw 2 (by kernel_rfl)) (by kernel_rfl)
      obtain ⟨_, e1, rfl⟩ := hI.val 4 7 (by decide +kernel) (hw 4 (by kernel_rfl)) (by kernel_rfl)
      obtain ⟨_, e2, rfl⟩ := hI.val 6 9 (by decide +kernel) (hw 6 (by kernel_rfl)) (by kernel_rfl)
      obtain ⟨_, e3, rfl⟩ := hI.val 8 11 (by decide +kernel) (hw 8 (by kernel_rfl)) (by kernel_rfl)
      obtain ⟨_, e4, rfl⟩ := hI.val 10 13 (by decide +kernel) (hw 10 (by kernel_rfl)) (by kernel_rfl)
      obtain ⟨_, e5, rfl⟩ := hI.val 12 15 (by decide +kernel) (hw 12 (by kernel_rfl)) (by kernel_rfl)
      refine hI.pure (by kernel_rfl) (by decide +kernel) (i := 13) (d := 16) rfl rfl rfl (v := .agg #[.slice none 0 0, .slice a' l.length c', .int .i64 lg, .int .u64 fl, .int .u64 ct, .int .u64 at9, .int .u64 ls]) ⟨a', c', rfl, hc', hf', hx'⟩ (fun _ _ _ _ h => h) (wg_upd 13 (by decide) hI.g) ?_
      intro K hKK
      go_simp
      exact hKK
    · obtain ⟨_, e0, a', c', rfl, hc', hf', hx'⟩ := hI.val 13 16 (by decide +kernel) (hw 13 (by kernel_rfl)) (by kernel_rfl)
      have e1 := hI.kept 2 _ (by decide +kernel) rfl
      refine hI.store (by decide +kernel) (i := 14) rfl rfl rfl ?_
      intro K hKK
      have hz := hI.g.2.2.1 hLi
      have z0 : W.cell? ⟨w.heap.size + 1, 0, none⟩ = some (.slice none 0 0) := hz.cell rfl
      have y0 := hz.free 0
      have z1 : W.cell? ⟨w.heap.size + 1, 1, none⟩ = some (.slice none 0 0) := hz.cell rfl
      have y1 := hz.free 1
      have z2 : W.cell? ⟨w.heap.size + 1, 2, none⟩ = some (.int .i64 0) := hz.cell rfl
      have y2 := hz.free 2
      have z3 : W.cell? ⟨w.heap.size + 1, 3, none⟩ = some (.int .u64 0) := hz.cell rfl
      have y3 := hz.free 3
      have z4 : W.cell? ⟨w.heap.size + 1, 4, none⟩ = some (.int .u64 0) := hz.cell rfl
      have y4 := hz.free 4
      have z5 : W.cell? ⟨w.heap.size + 1, 5, none⟩ = some (.int .u64 0) := hz.cell rfl
      have y5 := hz.free 5
      have z6 : W.cell? ⟨w.heap.size + 1, 6, none⟩ = some (.int .u64 0) := hz.cell rfl
      have y6 := hz.free 6
      have HZ := hide hz
      clear hz
      go_simp
      have hg := egrow (k := 6) (u := .int .u64 ls) (egrow (k := 5) (u := .int .u64 at9) (egrow (k := 4) (u := .int .u64 ct) (egrow (k := 3) (u := .int .u64 fl) (egrow (k := 2) (u := .int .i64 lg) (egrow (k := 1) (u := .slice a' l.length c') (fgb_set W ⟨w.heap.size + 1, 0, none⟩ (.slice none 0 0)))))))
      have hzz := ((((((HZ.out.set 0 (.slice none 0 0)).set 1 (.slice a' l.length c')).set 2 (.int .i64 lg)).set 3 (.int .u64 fl)).set 4 (.int .u64 ct)).set 5 (.int .u64 at9)).set 6 (.int .u64 ls)
      have hfk : ∀ (a : Option Addr) (c : Nat), Fs W a l.length c l → (∀ x, a = some x → w.heap.size + 2 ≤ x.block) → Fs _ a l.length c l := fun a c h hx => h.gb hg (fun x hxx e => by have h1 := hx x hxx; have h2 : x.block = w.heap.size + 1 := Option.some.inj e; omega)
      refine hKK _ (fun j _ u _ _ _ _ h => wth_keep _ _ _ _ _ _ _ _ _ _ _ _ _ _ hfk j u h) ⟨hI.g.1.gb hg (by simp), bgrow (R := w.heap.size + 1) hI.g.2.1 hg (Nat.le_succ _), fun h => (by rw [upd_same] at h; cases h), fun _ => ⟨a', c', hzz, hc', hfk a' c' hf' hx'⟩, Nat.le_trans hI.g.2.2.2.2 hg.size⟩
  case fin =>
    intro L a W hI hall
    have s0 := hI.kept 0 _ (by decide +kernel) rfl
    have s1 := hI.kept 1 _ (by decide +kernel) rfl
    have s2 := hI.kept 2 _ (by decide +kernel) rfl
    obtain ⟨_, s3, rfl⟩ := hI.val 0 3 (by decide +kernel) (hall 0 (by decide +kernel)) (by kernel_rfl)
    obtain ⟨_, s4, rfl⟩ := hI.val 1 4 (by decide +kernel) (hall 1 (by decide +kernel)) (by kernel_rfl)
    obtain ⟨_, s5, a1, c1, rfl, _, _, _⟩ := hI.val 2 5 (by decide +kernel) (hall 2 (by decide +kernel)) (by kernel_rfl)
    obtain ⟨_, s6, rfl⟩ := hI.val 3 6 (by decide +kernel) (hall 3 (by decide +kernel)) (by kernel_rfl)
    obtain ⟨_, s7, rfl⟩ := hI.val 4 7 (by decide +kernel) (hall 4 (by decide +kernel)) (by kernel_rfl)
    obtain ⟨_, s8, rfl⟩ := hI.val 5 8 (by decide +kernel) (hall 5 (by decide +kernel)) (by kernel_rfl)
    obtain ⟨_, s9, rfl⟩ := hI.val 6 9 (by decide +kernel) (hall 6 (by decide +kernel)) (by kernel_rfl)
    obtain ⟨_, s10, rfl⟩ := hI.val 7 10 (by decide +kernel) (hall 7 (by decide +kernel)) (by kernel_rfl)
    obtain ⟨_, s11, rfl⟩ := hI.val 8 11 (by decide +kernel) (hall 8 (by decide +kernel)) (by kernel_rfl)
    obtain ⟨_, s12, rfl⟩ := hI.val 9 12 (by decide +kernel) (hall 9 (by decide +kernel)) (by kernel_rfl)
    obtain ⟨_, s13, rfl⟩ := hI.val 10 13 (by decide +kernel) (hall 10 (by decide +kernel)) (by kernel_rfl)
    obtain ⟨_, s14, rfl⟩ := hI.val 11 14 (by decide +kernel) (hall 11 (by decide +kernel)) (by kernel_rfl)
    obtain ⟨_, s15, rfl⟩ := hI.val 12 15 (by decide +kernel) (hall 12 (by decide +kernel)) (by kernel_rfl)
    obtain ⟨_, s16, a2, c2, rfl, _, _, _⟩ := hI.val 13 16 (by decide +kernel) (hall 13 (by decide +kernel)) (by kernel_rfl)
    have hfr := act_lit (l := [.agg #[.int .i64 lg, .slice fa fn fc, .int .u64 fl, .int .u64 ct, .int .u64 at9, .int .u64 ls], .pointer (some ⟨w.heap.size, 0, none⟩), .pointer (some ⟨w.heap.size + 1, 0, none⟩), .pointer (some ⟨w.heap.size, 1, none⟩), .slice fa fn fc, .slice a1 l.length c1, .pointer (some ⟨w.heap.size, 0, none⟩), .int .i64 lg, .pointer (some ⟨w.heap.size, 2, none⟩), .int .u64 fl, .pointer (some ⟨w.heap.size, 3, none⟩), .int .u64 ct, .pointer (some ⟨w.heap.size, 4, none⟩), .int .u64 at9, .pointer (some ⟨w.heap.size, 5, none⟩), .int .u64 ls, .agg #[.slice none 0 0, .slice a2 l.length c2, .int .i64 lg, .int .u64 fl, .int .u64 ct, .int .u64 at9, .int .u64 ls]]) hI.df hI.sz (fun d hd => match d, hd with | 0, _ => s0 | 1, _ => s1 | 2, _ => s2 | 3, _ => s3 | 4, _ => s4 | 5, _ => s5 | 6, _ => s6 | 7, _ => s7 | 8, _ => s8 | 9, _ => s9 | 10, _ => s10 | 11, _ => s11 | 12, _ => s12 | 13, _ => s13 | 14, _ => s14 | 15, _ => s15 | 16, _ => s16 | k + 17, hd => absurd hd (Nat.not_lt.2 (Nat.le_add_left 17 k)))
    have hG := hide hI.g
    have hA := hide hall
    rw [hfr]
    clear hfr hI hall s0 s1 s2 s3 s4 s5 s6 s7 s8 s9 s10 s11 s12 s13 s14 s15 s16
    obtain ⟨_, hbel, _, hfin, _⟩ := hG.out
    obtain ⟨a3, c3, hek, hc3, hf3⟩ := hfin (hA.out 14 (by decide +kernel))
    have HEK := hide hek
    have HRR := hide (HR.out a3 c3 W hc3 hf3 hbel)
    clear hek hf3 hfin hbel hc3
    go_wp2
    refine bodyPost_ret (whole_results HEK.out _ rfl) rfl ?_
    exact HRR.out

end Go.Proofs.Ytgopcaemgcnapaa.Clep
