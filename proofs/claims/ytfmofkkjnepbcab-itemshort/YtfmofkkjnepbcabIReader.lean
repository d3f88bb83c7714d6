/- What the reader of package item does when called: a byte, a number, an item taken from what is left. Conditions: its two cells hold what is said. -/
import Derived.Test.YtfmofkkjnepbcabILaw
import Derived.Test.YtfmofkkjnepbcabCut
namespace Go.Proofs.Ytfmofkkjnepbcab.Clep
open Go.RowKit
set_option linter.unusedVariables false

theorem Bs.grown {w w' : World} {row : Option Nat} {ao : Option Addr} {len cap : Nat} {zs : List Int} (h : Bs w ao len cap zs) (hg : w.grownBy w' row) (hne : 0 < len → ∀ a, ao = some a → some a.block ≠ row) : Bs w' ao len cap zs := by
  refine ⟨h.1, h.2.1, h.2.2.1, fun h0 => ?_⟩
  obtain ⟨b, off, ho, hc⟩ := h.2.2.2 h0
  exact ⟨b, off, ho, fun i hi => gb_cell hg _ (hc i hi) (hne h0 ⟨b, off, none⟩ ho)⟩
/-- The reader in block R: what is left, and its error. The bytes lie below B. -/
def Re (w : World) (B R : Nat) (zs : List Int) (e : Int) : Prop :=
  (∃ ao len cap, w.cell? ⟨R, 0, none⟩ = some (.slice ao len cap) ∧ Bs w ao len cap zs ∧ cap ≤ 9223372036854775807 ∧ (0 < len → ∀ a, ao = some a → a.block < B)) ∧
    w.cell? ⟨R, 1, none⟩ = some (.int .i64 e) ∧ w.frozen? ⟨R, 0, none⟩ = false ∧ w.frozen? ⟨R, 1, none⟩ = false ∧ B ≤ R
theorem Re.lt {w : World} {B R : Nat} {zs : List Int} {e : Int} (h : Re w B R zs e) : R < w.heap.size := World.block_lt_of_cell? w _ h.2.1
theorem Re.grown {w w' : World} {B R : Nat} {zs : List Int} {e : Int} {row : Option Nat} (h : Re w B R zs e) (hg : w.grownBy w' row) (hne : some R ≠ row) (hB : ∀ k, row = some k → B ≤ k) : Re w' B R zs e := by
  have hl := h.lt
  obtain ⟨⟨ao, len, cap, h0, hb, hc, ha⟩, h1, f0, f1, hr⟩ := h
  have hbl := hg.block R hl hne
  refine ⟨⟨ao, len, cap, gb_cell hg _ h0 hne, hb.grown hg (fun h9 a e he => ?_), hc, ha⟩, gb_cell hg _ h1 hne, (World.frozen?_of_block (a := ⟨R, 0, none⟩) (w := w) hbl).trans f0, (World.frozen?_of_block (a := ⟨R, 1, none⟩) (w := w) hbl).trans f1, hr⟩
  have := ha h9 a e
  have := hB a.block he.symm
  omega
theorem Re.keep {w w' : World} {B R : Nat} {zs : List Int} {e : Int} (h : Re w B R zs e) (hb : Below w.heap.size w w') : Re w' B R zs e := h.grown (gb_below hb none) (by simp) (by simp)
theorem Re.setE {w : World} {B R : Nat} {zs : List Int} {e : Int} (h : Re w B R zs e) (n : Int) : Re (w.setCell ⟨R, 1, none⟩ (.int .i64 n)) B R zs n := by
  obtain ⟨⟨ao, len, cap, h0, hb, hc, ha⟩, h1, f0, f1, hr⟩ := h
  refine ⟨⟨ao, len, cap, ?_, hb.grown (gb_set _ _ _) (fun h9 a e he => ?_), hc, ha⟩, ?_, by simpa using f0, by simpa using f1, hr⟩
  · rw [World.cell?_setCell_other (h := by simp)]; exact h0
  · have := ha h9 a e
    simp at he; omega
  · rw [World.cell?_setCell_same (h := h1)]
theorem Re.setL {w : World} {B R : Nat} {zs ys : List Int} {e : Int} (h : Re w B R zs e) (ao : Option Addr) (len cap : Nat) (hb : Bs w ao len cap ys) (hc : cap ≤ 9223372036854775807) (ha : 0 < len → ∀ a, ao = some a → a.block < B) : Re (w.setCell ⟨R, 0, none⟩ (.slice ao len cap)) B R ys e := by
  obtain ⟨⟨ao0, len0, cap0, h0, -, -, -⟩, h1, f0, f1, hr⟩ := h
  refine ⟨⟨ao, len, cap, ?_, hb.grown (gb_set _ _ _) (fun h9 a e he => ?_), hc, ha⟩, ?_, by simpa using f0, by simpa using f1, hr⟩
  · rw [World.cell?_setCell_same (h := h0)]
  · have := ha h9 a e
    simp at he; omega
  · rw [World.cell?_setCell_other (h := by simp)]; exact h1
theorem cut_block {a : Option Addr} {cap l B : Nat} (h : ∀ x, a = some x → x.block < B) : ∀ x, cut a cap l = some x → x.block < B := by
  intro x hx
  unfold cut at hx
  split at hx
  · exact h x hx
  · cases a with
    | none => cases hx
    | some y =>
      simp at hx
      subst hx
      have := h y rfl
      unfold Addr.add
      split <;> exact this

/-- What a byte comes to: the byte, what is left, the error. -/
def one1 (s : List Int × Int) : Int × List Int × Int := if s.2 ≠ 0 then (0, s) else match s.1 with
  | [] => (0, [], 4)
  | c :: r => (c, r, 0)
/-- What a number comes to. -/
def num1 (s : List Int × Int) : Int × List Int × Int := if s.2 ≠ 0 then (0, s) else ((tk s.1 0 0).1, s.1.drop (tk s.1 0 0).2.1.toNat, (tk s.1 0 0).2.2)

attribute [local go_sem ↓] cut_l

end Go.Proofs.Ytfmofkkjnepbcab.Clep
