/- The region of edit.Apply that works its View out: what each slot holds once its operation has come up. No conditions. -/
import Derived.Test.YtgopcaemgcnapaaEInv
import Derived.Test.YtgopcaemgcnapaaEOkW
namespace Go.Proofs.Ytgopcaemgcnapaa.Clep
open Go.RowKit
set_option linter.unusedVariables false
set_option maxRecDepth 10000

/-- What each slot of the region holds. -/
def ATh (B H : Nat) (aa : Option Addr) (an ac : Nat) (a6 : Option Addr) (c6 N : Nat) (m a : List Fi) (lg fl ct at9 ls lg' fl' ct' at9' ls' : Int) : (Nat → Bool) → Nat → Value → World → Prop := fun L i v W => match i with
  | 0 => v = .pointer (some ⟨B + 1, 2, none⟩)
  | 1 => v = .int .i64 lg'
  | 2 => v = .pointer (some ⟨B, 0, none⟩)
  | 3 => v = .int .i64 lg
  | 4 => ∃ q, v = .slice (some ⟨q, 0, none⟩) 2 2 ∧ (L 36 = false → H ≤ q ∧ q < W.heap.size ∧ Iz W q [lg', lg])
  | 5 => v = .int .i64 (put0 lg lg')
  | 6 => v = .slice a6 m.length c6
  | 7 => v = .pointer (some ⟨B + 1, 1, none⟩)
  | 8 => v = .slice aa an ac
  | 9 => ∃ a4 c4, v = .slice a4 N c4 ∧ (L 36 = false → OwnF W (B + 3) (.slice a4 N c4) (m ++ a))
  | 10 => v = .pointer (some ⟨B + 1, 3, none⟩)
  | 11 => v = .int .u64 fl'
  | 12 => v = .pointer (some ⟨B, 2, none⟩)
  | 13 => v = .int .u64 fl
  | 14 => ∃ q, v = .slice (some ⟨q, 0, none⟩) 2 2 ∧ (L 36 = false → H ≤ q ∧ q < W.heap.size ∧ Uz W q [fl', fl])
  | 15 => v = .int .u64 (put0 fl fl')
  | 16 => v = .pointer (some ⟨B + 1, 4, none⟩)
  | 17 => v = .int .u64 ct'
  | 18 => v = .pointer (some ⟨B, 3, none⟩)
  | 19 => v = .int .u64 ct
  | 20 => ∃ q, v = .slice (some ⟨q, 0, none⟩) 2 2 ∧ (L 36 = false → H ≤ q ∧ q < W.heap.size ∧ Uz W q [ct', ct])
  | 21 => v = .int .u64 (put0 ct ct')
  | 22 => v = .pointer (some ⟨B + 1, 5, none⟩)
  | 23 => v = .int .u64 at9'
  | 24 => v = .pointer (some ⟨B, 4, none⟩)
  | 25 => v = .int .u64 at9
  | 26 => ∃ q, v = .slice (some ⟨q, 0, none⟩) 2 2 ∧ (L 36 = false → H ≤ q ∧ q < W.heap.size ∧ Uz W q [at9', at9])
  | 27 => v = .int .u64 (put0 at9 at9')
  | 28 => v = .pointer (some ⟨B + 1, 6, none⟩)
  | 29 => v = .int .u64 ls'
  | 30 => v = .pointer (some ⟨B, 5, none⟩)
  | 31 => v = .int .u64 ls
  | 32 => ∃ q, v = .slice (some ⟨q, 0, none⟩) 2 2 ∧ (L 36 = false → H ≤ q ∧ q < W.heap.size ∧ Uz W q [ls', ls])
  | 33 => v = .int .u64 (put0 ls ls')
  | 34 => ∃ a4 c4, v = .agg #[.int .i64 (put0 lg lg'), .slice a4 N c4, .int .u64 (put0 fl fl'), .int .u64 (put0 ct ct'), .int .u64 (put0 at9 at9'), .int .u64 (put0 ls ls')] ∧ (L 36 = false → OwnF W (B + 3) (.slice a4 N c4) (m ++ a))
  | 35 => ∃ p, v = .pointer (some ⟨p, 0, none⟩) ∧ H ≤ p ∧ (L 36 = false → Ek W p #[.int .i64 0, .slice none 0 0, .int .u64 0, .int .u64 0, .int .u64 0, .int .u64 0] 26) ∧ (L 36 = true → ∃ a4 c4, Ek W p #[.int .i64 (put0 lg lg'), .slice a4 N c4, .int .u64 (put0 fl fl'), .int .u64 (put0 ct ct'), .int .u64 (put0 at9 at9'), .int .u64 (put0 ls ls')] 26 ∧ OwnF W (B + 3) (.slice a4 N c4) (m ++ a))
  | _ => True
theorem iz_keep {W W' : World} {q : Nat} {ns : List Int} (hc : ∀ o v, W.cell? ⟨q, o, none⟩ = some v → W'.cell? ⟨q, o, none⟩ = some v) (h : Iz W q ns) : Iz W' q ns := fun i z hz => hc _ _ (h i z hz)
theorem uz_keep {W W' : World} {q : Nat} {ns : List Int} (hc : ∀ o v, W.cell? ⟨q, o, none⟩ = some v → W'.cell? ⟨q, o, none⟩ = some v) (h : Uz W q ns) : Uz W' q ns := fun i z hz => hc _ _ (h i z hz)
theorem gb_cells {W W' : World} {row : Option Nat} {q : Nat} (hg : W.grownBy W' row) (hq : q < W.heap.size) (hne : some q ≠ row) : ∀ o v, W.cell? ⟨q, o, none⟩ = some v → W'.cell? ⟨q, o, none⟩ = some v := fun o v h => (World.cell?_of_block (w := W) (a := ⟨q, o, none⟩) (hg.block q hq hne)).trans h
/-- Memory is made: all stays. -/
theorem ath_keep {B H : Nat} {aa : Option Addr} {an ac : Nat} {a6 : Option Addr} {c6 N : Nat} {m a : List Fi} {lg fl ct at9 ls lg' fl' ct' at9' ls' : Int} {L L' : Nat → Bool} {W W' : World} (hL : L' 36 = L 36) (hb : Below W.heap.size W W') : ∀ j u, ATh B H aa an ac a6 c6 N m a lg fl ct at9 ls lg' fl' ct' at9' ls' L j u W → ATh B H aa an ac a6 c6 N m a lg fl ct at9 ls lg' fl' ct' at9' ls' L' j u W' := by
  intro j u h
  match j, h with
  | 0, h => exact h
  | 1, h => exact h
  | 2, h => exact h
  | 3, h => exact h
  | 4, ⟨q, h1, h2⟩ => exact ⟨q, h1, fun e => ⟨(h2 (hL ▸ e)).1, Nat.lt_of_lt_of_le (h2 (hL ▸ e)).2.1 hb.size, iz_keep (gb_cells (fgb_below hb none) (h2 (hL ▸ e)).2.1 (by simp)) (h2 (hL ▸ e)).2.2⟩⟩
  | 5, h => exact h
  | 6, h => exact h
  | 7, h => exact h
  | 8, h => exact h
  | 9, ⟨a4, c4, h1, h2⟩ => exact ⟨a4, c4, h1, fun e => ownF_keep (h2 (hL ▸ e)) hb⟩
  | 10, h => exact h
  | 11, h => exact h
  | 12, h => exact h
  | 13, h => exact h
  | 14, ⟨q, h1, h2⟩ => exact ⟨q, h1, fun e => ⟨(h2 (hL ▸ e)).1, Nat.lt_of_lt_of_le (h2 (hL ▸ e)).2.1 hb.size, uz_keep (gb_cells (fgb_below hb none) (h2 (hL ▸ e)).2.1 (by simp)) (h2 (hL ▸ e)).2.2⟩⟩
  | 15, h => exact h
  | 16, h => exact h
  | 17, h => exact h
  | 18, h => exact h
  | 19, h => exact h
  | 20, ⟨q, h1, h2⟩ => exact ⟨q, h1, fun e => ⟨(h2 (hL ▸ e)).1, Nat.lt_of_lt_of_le (h2 (hL ▸ e)).2.1 hb.size, uz_keep (gb_cells (fgb_below hb none) (h2 (hL ▸ e)).2.1 (by simp)) (h2 (hL ▸ e)).2.2⟩⟩
  | 21, h => exact h
  | 22, h => exact h
  | 23, h => exact h
  | 24, h => exact h
  | 25, h => exact h
  | 26, ⟨q, h1, h2⟩ => exact ⟨q, h1, fun e => ⟨(h2 (hL ▸ e)).1, Nat.lt_of_lt_of_le (h2 (hL ▸ e)).2.1 hb.size, uz_keep (gb_cells (fgb_below hb none) (h2 (hL ▸ e)).2.1 (by simp)) (h2 (hL ▸ e)).2.2⟩⟩
  | 27, h => exact h
  | 28, h => exact h
  | 29, h => exact h
  | 30, h => exact h
  | 31, h => exact h
  | 32, ⟨q, h1, h2⟩ => exact ⟨q, h1, fun e => ⟨(h2 (hL ▸ e)).1, Nat.lt_of_lt_of_le (h2 (hL ▸ e)).2.1 hb.size, uz_keep (gb_cells (fgb_below hb none) (h2 (hL ▸ e)).2.1 (by simp)) (h2 (hL ▸ e)).2.2⟩⟩
  | 33, h => exact h
  | 34, ⟨a4, c4, h1, h2⟩ => exact ⟨a4, c4, h1, fun e => ownF_keep (h2 (hL ▸ e)) hb⟩
  | 35, ⟨p, h1, h2, h3, h4⟩ => exact ⟨p, h1, h2, fun e => (h3 (hL ▸ e)).below hb (h3 (hL ▸ e)).lt, fun e => by
      obtain ⟨a4, c4, h5, h6⟩ := h4 (hL ▸ e)
      exact ⟨a4, c4, h5.below hb h5.lt, ownF_keep h6 hb⟩⟩
  | k + 36, h => trivial
/-- The row grows: all else stays. -/
theorem ath_row {B H : Nat} {aa : Option Addr} {an ac : Nat} {a6 : Option Addr} {c6 N : Nat} {m a : List Fi} {lg fl ct at9 ls lg' fl' ct' at9' ls' : Int} {L L' : Nat → Bool} {W W' : World} {row : Option Nat} (hL : L' 36 = L 36) (h36 : L 36 = false) (hg : W.grownBy W' row) (hr : ∀ k, row = some k → k < H) : ∀ j u, (j ≠ 9 ∧ j ≠ 34) → ATh B H aa an ac a6 c6 N m a lg fl ct at9 ls lg' fl' ct' at9' ls' L j u W → ATh B H aa an ac a6 c6 N m a lg fl ct at9 ls lg' fl' ct' at9' ls' L' j u W' := by
  intro j u hj h
  match j, h with
  | 0, h => exact h
  | 1, h => exact h
  | 2, h => exact h
  | 3, h => exact h
  | 4, ⟨q, h1, h2⟩ => exact ⟨q, h1, fun e => ⟨(h2 (hL ▸ e)).1, Nat.lt_of_lt_of_le (h2 (hL ▸ e)).2.1 hg.size, iz_keep (gb_cells hg (h2 (hL ▸ e)).2.1 (fun e2 => by have := hr q e2.symm; have := (h2 (hL ▸ e)).1; omega)) (h2 (hL ▸ e)).2.2⟩⟩
  | 5, h => exact h
  | 6, h => exact h
  | 7, h => exact h
  | 8, h => exact h
  | 9, h => exact absurd rfl hj.1
  | 10, h => exact h
  | 11, h => exact h
  | 12, h => exact h
  | 13, h => exact h
  | 14, ⟨q, h1, h2⟩ => exact ⟨q, h1, fun e => ⟨(h2 (hL ▸ e)).1, Nat.lt_of_lt_of_le (h2 (hL ▸ e)).2.1 hg.size, uz_keep (gb_cells hg (h2 (hL ▸ e)).2.1 (fun e2 => by have := hr q e2.symm; have := (h2 (hL ▸ e)).1; omega)) (h2 (hL ▸ e)).2.2⟩⟩
  | 15, h => exact h
  | 16, h => exact h
  | 17, h => exact h
  | 18, h => exact h
  | 19, h => exact h
  | 20, ⟨q, h1, h2⟩ => exact ⟨q, h1, fun e => ⟨(h2 (hL ▸ e)).1, Nat.lt_of_lt_of_le (h2 (hL ▸ e)).2.1 hg.size, uz_keep (gb_cells hg (h2 (hL ▸ e)).2.1 (fun e2 => by have := hr q e2.symm; have := (h2 (hL ▸ e)).1; omega)) (h2 (hL ▸ e)).2.2⟩⟩
  | 21, h => exact h
  | 22, h => exact h
  | 23, h => exact h
  | 24, h => exact h
  | 25, h => exact h
  | 26, ⟨q, h1, h2⟩ => exact ⟨q, h1, fun e => ⟨(h2 (hL ▸ e)).1, Nat.lt_of_lt_of_le (h2 (hL ▸ e)).2.1 hg.size, uz_keep (gb_cells hg (h2 (hL ▸ e)).2.1 (fun e2 => by have := hr q e2.symm; have := (h2 (hL ▸ e)).1; omega)) (h2 (hL ▸ e)).2.2⟩⟩
  | 27, h => exact h
  | 28, h => exact h
  | 29, h => exact h
  | 30, h => exact h
  | 31, h => exact h
  | 32, ⟨q, h1, h2⟩ => exact ⟨q, h1, fun e => ⟨(h2 (hL ▸ e)).1, Nat.lt_of_lt_of_le (h2 (hL ▸ e)).2.1 hg.size, uz_keep (gb_cells hg (h2 (hL ▸ e)).2.1 (fun e2 => by have := hr q e2.symm; have := (h2 (hL ▸ e)).1; omega)) (h2 (hL ▸ e)).2.2⟩⟩
  | 33, h => exact h
  | 34, h => exact absurd rfl hj.2
  | 35, ⟨p, h1, h2, h3, h4⟩ => exact ⟨p, h1, h2, fun e => (h3 h36).gb hg (fun e2 => by have := hr p e2.symm; omega), fun e => by rw [hL, h36] at e; cases e⟩
  | k + 36, h => trivial
/-- The View is stored: what its block holds is said anew. -/
theorem ath_store {B H : Nat} {aa : Option Addr} {an ac : Nat} {a6 : Option Addr} {c6 N : Nat} {m a : List Fi} {lg fl ct at9 ls lg' fl' ct' at9' ls' : Int} {L L' : Nat → Bool} {W W' : World} (hL : L' 36 = true) : ∀ j u, (j = 35 → ATh B H aa an ac a6 c6 N m a lg fl ct at9 ls lg' fl' ct' at9' ls' L' 35 u W') → ATh B H aa an ac a6 c6 N m a lg fl ct at9 ls lg' fl' ct' at9' ls' L j u W → ATh B H aa an ac a6 c6 N m a lg fl ct at9 ls lg' fl' ct' at9' ls' L' j u W' := by
  intro j u h35 h
  match j, h with
  | 0, h => exact h
  | 1, h => exact h
  | 2, h => exact h
  | 3, h => exact h
  | 4, ⟨q, h1, h2⟩ => exact ⟨q, h1, fun e => by rw [hL] at e; cases e⟩
  | 5, h => exact h
  | 6, h => exact h
  | 7, h => exact h
  | 8, h => exact h
  | 9, ⟨a4, c4, h1, h2⟩ => exact ⟨a4, c4, h1, fun e => by rw [hL] at e; cases e⟩
  | 10, h => exact h
  | 11, h => exact h
  | 12, h => exact h
  | 13, h => exact h
  | 14, ⟨q, h1, h2⟩ => exact ⟨q, h1, fun e => by rw [hL] at e; cases e⟩
  | 15, h => exact h
  | 16, h => exact h
  | 17, h => exact h
  | 18, h => exact h
  | 19, h => exact h
  | 20, ⟨q, h1, h2⟩ => exact ⟨q, h1, fun e => by rw [hL] at e; cases e⟩
  | 21, h => exact h
  | 22, h => exact h
  | 23, h => exact h
  | 24, h => exact h
  | 25, h => exact h
  | 26, ⟨q, h1, h2⟩ => exact ⟨q, h1, fun e => by rw [hL] at e; cases e⟩
  | 27, h => exact h
  | 28, h => exact h
  | 29, h => exact h
  | 30, h => exact h
  | 31, h => exact h
  | 32, ⟨q, h1, h2⟩ => exact ⟨q, h1, fun e => by rw [hL] at e; cases e⟩
  | 33, h => exact h
  | 34, ⟨a4, c4, h1, h2⟩ => exact ⟨a4, c4, h1, fun e => by rw [hL] at e; cases e⟩
  | 35, h => exact h35 rfl
  | k + 36, h => trivial
/-- What the memory holds meanwhile. -/
def AG (wS : World) (B : Nat) (a6 : Option Addr) (c6 : Nat) (m : List Fi) : (Nat → Bool) → World → Prop := fun L W => wS.grownBy W (Value.ownBlock (.slice a6 m.length c6)) ∧ (L 9 = false → OwnF W (B + 3) (.slice a6 m.length c6) m) ∧ (L 36 = true → ∀ j, j < 36 → L j = true) ∧ (L 34 = true → L 9 = true)
theorem gb_comp {w W W' : World} {row r2 : Option Nat} (h1 : w.grownBy W row) (h2 : W.grownBy W' r2) (h : ∀ k, r2 = some k → row = some k ∨ w.heap.size ≤ k) : w.grownBy W' row :=
  ⟨h2.os.trans h1.os, h2.tape.trans h1.tape, h2.output.trans h1.output, Nat.le_trans h1.size h2.size, fun i hi hne => (h2.block i (Nat.lt_of_lt_of_le hi h1.size) (fun e => by
    rcases h i e.symm with h3 | h3
    · exact hne h3.symm
    · omega)).trans (h1.block i hi hne)⟩
theorem ag_upd {wS : World} {B : Nat} {a6 : Option Addr} {c6 : Nat} {m : List Fi} {L : Nat → Bool} {W : World} (i : Nat) (hi : i ≠ 9) (hi2 : i ≠ 36) (hi3 : i = 34 → L 9 = true) (h36 : L 36 = false) (h : AG wS B a6 c6 m L W) : AG wS B a6 c6 m (upd L i) W := by
  refine ⟨h.1, fun e => h.2.1 (by unfold upd at e; rwa [if_neg (Ne.symm hi)] at e), fun e => ?_, fun e => ?_⟩
  · unfold upd at e; rw [if_neg (Ne.symm hi2), h36] at e; cases e
  · by_cases e3 : i = 34
    · exact upd_more (hi3 e3)
    · exact upd_more (h.2.2.2 (by unfold upd at e; rwa [if_neg (Ne.symm e3)] at e))
theorem ag_below {wS : World} {B : Nat} {a6 : Option Addr} {c6 : Nat} {m : List Fi} {L : Nat → Bool} {W W' : World} (h : AG wS B a6 c6 m L W) (hb : Below W.heap.size W W') : AG wS B a6 c6 m L W' :=
  ⟨gb_comp h.1 (fgb_below hb none) (by simp), fun e => ownF_keep (h.2.1 e) hb, h.2.2⟩
theorem ag36 {wS : World} {B : Nat} {a6 : Option Addr} {c6 : Nat} {m : List Fi} {L : Nat → Bool} {W : World} (h : AG wS B a6 c6 m L W) {i : Nat} (hi : i < 36) (hL : L i = false) : L 36 = false := by
  cases e : L 36 with
  | false => rfl
  | true => rw [h.2.2.1 e i hi] at hL; cases hL
theorem upd36 {L : Nat → Bool} {i : Nat} (hi : 36 ≠ i) : upd L i 36 = L 36 := by unfold upd; rw [if_neg hi]
theorem own_not_view {W : World} {B p : Nat} {v : Value} {l : List Fi} {cs : Array Value} (h : OwnF W B v l) (hp : Ek W p cs 26) : v.ownBlock ≠ some p := by
  intro e
  obtain ⟨hl, ⟨rfl, hn⟩ | ⟨g, cap, cur, rfl, hg, hh, hnc, hcm, hcs, hx⟩⟩ := h
  · cases e
  · have : g = p := Option.some.inj e
    subst this
    unfold Ek at hp
    rw [hh] at hp
    injection hp with hp
    injection hp with _ hp
    exact absurd hp (by decide)
theorem ownF_far {w w' : World} {B p : Nat} {v : Value} {l : List Fi} (h : OwnF w B v l) (hg : w.grownBy w' (some p)) (hne : v.ownBlock ≠ some p) : OwnF w' B v l := by
  refine World.ownsRow.kept h hg ?_
  cases hv : v.ownBlock with
  | none => exact .inl rfl
  | some k => exact .inr (fun e => hne (by rw [hv, e]))
theorem iz2 {w : World} {p : Nat} {x y : Int} {T : TypeId} (h : Ek w p #[.int .i64 x, .int .i64 y] T) : Iz w p [x, y] := by
  intro i z hz
  match i, hz with
  | 0, hz => exact h.cell (by simpa using hz)
  | 1, hz => exact h.cell (by simpa using hz)
  | k + 2, hz => simp at hz
theorem uz2 {w : World} {p : Nat} {x y : Int} {T : TypeId} (h : Ek w p #[.int .u64 x, .int .u64 y] T) : Uz w p [x, y] := by
  intro i z hz
  match i, hz with
  | 0, hz => exact h.cell (by simpa using hz)
  | 1, hz => exact h.cell (by simpa using hz)
  | k + 2, hz => simp at hz
theorem oper_append_files {w : World} {o : Oper} {a : Act} {K : Act → World → Prop} {Q : Exit → Act → World → Prop} (hgd : o.guard = none) (s x : Operand)
    (ho : o.op = .call { callee := .builtin .append, args := #[s, x], argTypes := #[23, 23] })
    (base : Nat) (v : Value) (l : List Fi) (hs : a.eval s = v) (hown : OwnF w base v l) (ao : Option Addr) (len cap : Nat) (m : List Fi) (hx : a.eval x = .slice ao len cap) (hb : Fs w ao len cap m)
    (hlen : l.length + len ≤ 3518437208883) (hbase : base ≤ w.heap.size)
    (h : ∀ v' w', OwnF w' base v' (l ++ m) → w.grownBy w' v.ownBlock → (∀ k, v.ownBlock = some k → base ≤ k) → K (a.put o.dst v') w') : Oper.wp Try.prog o a w K Q := by
  have := step_append_files (ops := #[]) (K := K) (Q := Q) (E := True) hgd s x ho base v l hs hown ao len cap m hx hb hlen hbase h
  rwa [if_pos (by simp [Region.wanted, hgd])] at this

end Go.Proofs.Ytgopcaemgcnapaa.Clep
