/- An Iter in memory: not yet opened, or opened. No conditions. -/
import Derived.Test.YtkkcchklefcljaaVRows
import Derived.Test.YtkkcchklefcljaaVOnce
import Derived.Laws.OwnMore
import Derived.Laws.EntriesVeiled
namespace Go.Proofs.Ytkkcchklefcljaa.Clep
open Go.RowKit
set_option linter.unusedVariables false
set_option maxRecDepth 10000

/-- An Iter's cells. -/
def itrV (rows : Value) (d m : Int) (it : Value) (nx : Int) : Array Value := #[rows, .int .u32 d, .int .i32 m, .int .u32 0, it, .int .i64 nx]
/-- An Iter in block M that is not yet opened: its rows lie elsewhere. -/
structure ItU (w : World) (M : Nat) (ls : List (List It)) : Prop where
  ex : ∃ a n c ys, Blk w M (itrV (.slice a n c) 0 0 (.slice none 0 0) 0) 64 ∧ Rws w a n c ys ∧ ys.map Sl.l = ls ∧ c ≤ 9223372036854775807 ∧ n ≤ 1000 ∧ sumL ys ≤ 100000 ∧
    (0 < n → ∀ x, a = some x → x.block ≠ M) ∧ ∀ z ∈ ys, 0 < z.n → ∀ x, z.a = some x → x.block ≠ M
/-- An Iter in block M that is opened: its row (a, n, c) lies elsewhere. -/
structure ItO (w : World) (M : Nat) (a : Option Addr) (n c : Nat) (ls : List (List It)) (L : List It) (nx : Nat) : Prop where
  blk : Blk w M (itrV (.slice none 0 0) 1 0 (.slice a n c) nx) 64
  rs : Rs w a n c ls L
  ne : 0 < n → ∀ x, a = some x → x.block ≠ M
  le : nx ≤ L.length
/-- An Iter that stands ahead of its nx-th item. -/
def Itr (w : World) (M : Nat) (ls : List (List It)) (nx : Nat) : Prop := (ItU w M ls ∧ nx = 0) ∨ ∃ a n c L, ItO w M a n c ls L nx
theorem is_ch {P : Nat → Prop} {w w' : World} {a : Option Addr} {n c : Nat} {l : List It} (h : Is w a n c l) (hc : Ch P w w') (hp : 0 < n → ∀ x, a = some x → ¬ P x.block) : Is w' a n c l := by
  refine ⟨h.1, h.2.1, h.2.2.1, fun h0 => ?_⟩
  obtain ⟨b, off, ho, hcell⟩ := h.2.2.2 h0
  refine ⟨b, off, ho, fun i x hi => ?_⟩
  have g := hcell i x hi
  have hlt : b < w.heap.size := Vi.lt g
  have hb := hc.block b hlt (hp h0 _ ho)
  unfold Vt Vi at g ⊢
  exact ⟨(World.cell?_of_block (a := ⟨b, _, none⟩) hb).trans g.1, (World.cell?_of_block (a := ⟨b, _, none⟩) hb).trans g.2.1, (World.cell?_of_block (a := ⟨b, _, none⟩) hb).trans g.2.2.1, (World.cell?_of_block (a := ⟨b, _, none⟩) hb).trans g.2.2.2.1, (World.cell?_of_block (a := ⟨b, _, none⟩) hb).trans g.2.2.2.2⟩
theorem rws_ch {P : Nat → Prop} {w w' : World} {a : Option Addr} {n c : Nat} {ys : List Sl} (h : Rws w a n c ys) (hc : Ch P w w') (hp : 0 < n → ∀ x, a = some x → ¬ P x.block) (hq : ∀ z ∈ ys, 0 < z.n → ∀ x, z.a = some x → ¬ P x.block) : Rws w' a n c ys := by
  refine ⟨h.1, h.2.1, fun z hz => ⟨is_ch (h.2.2.1 z hz).1 hc (hq z hz), (h.2.2.1 z hz).2⟩, fun h0 => ?_⟩
  obtain ⟨b, off, ho, hcell⟩ := h.2.2.2 h0
  refine ⟨b, off, ho, fun i z hi => ?_⟩
  have g := hcell i z hi
  exact (World.cell?_of_block (a := ⟨b, off + i, none⟩) (hc.block b (World.block_lt_of_cell? w _ g) (hp h0 _ ho))).trans g
theorem ItU.keep {w w' : World} {M : Nat} {ls : List (List It)} (h : ItU w M ls) (hb : Below w.heap.size w w') : ItU w' M ls := by
  obtain ⟨a, n, c, ys, h1, h2, h3⟩ := h.ex
  exact ⟨a, n, c, ys, h1.keep hb, h2.below hb (Nat.le_refl _), h3⟩
theorem ItO.keep {w w' : World} {M : Nat} {a : Option Addr} {n c : Nat} {ls : List (List It)} {L : List It} {nx : Nat} (h : ItO w M a n c ls L nx) (hb : Below w.heap.size w w') : ItO w' M a n c ls L nx :=
  ⟨h.blk.keep hb, ⟨h.rs.mrg, h.rs.is.below hb (Nat.le_refl _), h.rs.cap⟩, h.ne, h.le⟩
theorem Itr.keep {w w' : World} {M : Nat} {ls : List (List It)} {nx : Nat} (h : Itr w M ls nx) (hb : Below w.heap.size w w') : Itr w' M ls nx := by
  rcases h with ⟨h, e⟩ | ⟨a, n, c, L, h⟩
  · exact .inl ⟨h.keep hb, e⟩
  · exact .inr ⟨a, n, c, L, h.keep hb⟩
theorem itrV_done (v : Value) : (((itrV (.slice none 0 0) 0 1 v 0)).setIfInBounds 1 (.int .u32 1)).setIfInBounds 2 (.int .i32 0) = itrV (.slice none 0 0) 1 0 v 0 := rfl
theorem ch_gb {w w' : World} {M : Nat} (h : Ch (fun b => b = M) w w') : w.grownBy w' (some M) := ⟨h.os, h.tape, h.output, h.size, fun i hi hne => h.block i hi (fun e => hne (by rw [e]))⟩

end Go.Proofs.Ytkkcchklefcljaa.Clep
