/- What slices.Clone of items, block.Cut and the document's own Cut do when called. Conditions: at most a million items. -/
import Derived.Test.YtkkcchklefcljaaOOne
import Derived.Laws.MakeOwn
namespace Go.Proofs.Ytkkcchklefcljaa.Clep
open Go.RowKit
set_option linter.unusedVariables false

set_option maxRecDepth 100000 in
theorem clone_any (b off n c : Nat) (l : List It) (w : World) (h : Is w (some ⟨b, off, none⟩) n c l) (hn : n ≤ 1000000) :
    Calls Try.prog 25 #[.slice (some ⟨b, off, none⟩) n c] w fun e w' => ∃ v, e = .returned v ∧ OwnI w' w.heap.size v l ∧ Below w.heap.size w w' := by
  have heq : ∀ (w : World) (a : Option Addr) (n c : Nat), (binOp .eql 25 (.slice a n c) (.slice none 0 0)).run Try.prog w = .ok (.bool a.isNone) w := fun w a n c => by
    have := run_equal_slice_nil (P := Try.prog) (w := w) 25 36 a n c Try.underlying25
    simp [binOp, this, Result.andThen]
  have A1 := (Below.refl _ w).alloc (Nat.le_refl _) (Obj.cells #[] 36)
  have h1 := hide (h.below A1 (Nat.le_refl _))
  have hO := hide (ownI_empty (w := w.alloc (Obj.cells #[] 36)) (B := w.heap.size) (g := w.heap.size) (hpS w _ _ rfl) (Nat.le_refl _))
  have B1 := hide A1
  have HL := hide (show ([] : List It).length + n ≤ 3518437208883 by simp; omega)
  have HB := hide (show w.heap.size ≤ (w.alloc (Obj.cells #[] 36)).heap.size by simp)
  clear h A1
  go_enter Try.func25, Try.ntmps25
  go_wp2_with (first
    | (at_builtin; refine wpList_append_items rfl _ _ rfl w.heap.size _ [] rfl hO.out _ n c l rfl h1.out HL.out HB.out ?_)
    | fail)
  intro v' w' ho hg hbk
  go_wp2
  go_ret
  exact ⟨_, rfl, ho, B1.out.grown hg (by simp) hbk⟩

theorem max_int (ts : Array TypeId) (t : TypeId) (k k' : IntKind) (x y : Int) (w : World) : (Builtin.max_ ts t #[.int k x, .int k' y]).run Try.prog w = .ok (.int k (max x y)) w := by
  rw [run_max_int2, show (if y > x then y else x) = max x y by split <;> omega]
theorem min_int (ts : Array TypeId) (t : TypeId) (k k' : IntKind) (x y : Int) (w : World) : (Builtin.min_ ts t #[.int k x, .int k' y]).run Try.prog w = .ok (.int k (min x y)) w := by
  rw [run_min_int2, show (if y < x then y else x) = min x y by split <;> omega]
attribute [local go_sem ↓] max_int min_int

/-- How many items a row has, at most. -/
def csz (m : Int) : Nat := (min (max m 1) 100).toNat
theorem csz_rng (m : Int) : 1 ≤ csz m ∧ csz m ≤ 100 := by unfold csz; omega
/-- How many rows. -/
def cnr (s n : Nat) : Nat := (n + s - 1) / s
/-- The i-th row. -/
def ck (s : Nat) (l : List It) (i : Nat) : List It := (l.drop (i * s)).take s
theorem cnr_lt {s n j : Nat} (hs : 1 ≤ s) (h : j * s < n) : j + 1 ≤ cnr s n := by
  unfold cnr
  rw [Nat.le_div_iff_mul_le (by omega), Nat.succ_mul]
  omega
theorem cnr_le {s n j : Nat} (hs : 1 ≤ s) (h : n ≤ j * s) : cnr s n ≤ j := by
  unfold cnr
  apply Nat.le_of_lt_succ
  rw [Nat.div_lt_iff_lt_mul (by omega), Nat.succ_mul]
  omega
theorem cnr_n {s n : Nat} (hs : 1 ≤ s) : cnr s n ≤ n := cnr_le hs (Nat.le_mul_of_pos_right n (by omega))

/-- The rows cut so far, in a row at G; what is left. -/
structure Cs (w wr : World) (G s : Nat) (l : List It) (j nr : Nat) (a' : Option Addr) (m c' : Nat) : Prop where
  bel : Below w.heap.size w wr
  left : Is wr a' m c' (l.drop (j * s))
  cap : c' ≤ 9223372036854775807
  old : 0 < m → ∀ x, a' = some x → x.block < w.heap.size
  rows : ∃ zs : List Sl, zs.length = j ∧ wr.ownsRow w.heap.size 25 1 (.slice (some ⟨G, 0, none⟩) j nr) j (sv zs) ∧ (∀ z ∈ zs, Is wr z.a z.n z.c z.l ∧ z.n ≤ 9223372036854775807 ∧ ∀ x, z.a = some x → G < x.block) ∧ ∀ i z, zs[i]? = some z → z.l = ck s l i
theorem is_grown' {w w' : World} {row : Option Nat} {a : Option Addr} {len cap : Nat} {l : List It} (h : Is w a len cap l) (hg : w.grownBy w' row) (hne : 0 < len → ∀ x, a = some x → some x.block ≠ row) : Is w' a len cap l := by
  rcases Nat.eq_zero_or_pos len with h0 | h0
  · exact ⟨h.1, h.2.1, h.2.2.1, fun h => by omega⟩
  · obtain ⟨b, off, rfl, _⟩ := h.2.2.2 h0
    exact h.grown hg (hne h0 _ rfl)

/-- The rows cut so far by the document's own. -/
structure Cr (w wr : World) (v : Value) (s : Nat) (l : List It) (j : Nat) (a' : Option Addr) (m c' : Nat) : Prop where
  bel : Below w.heap.size w wr
  left : Is w a' m c' (l.drop (j * s))
  cap : c' ≤ 9223372036854775807
  rows : ∃ zs : List Sl, zs.length = j ∧ OwnS wr w.heap.size v zs ∧ (∀ z ∈ zs, Is w z.a z.n z.c z.l ∧ z.n ≤ 9223372036854775807) ∧ ∀ i z, zs[i]? = some z → z.l = ck s l i
end Go.Proofs.Ytkkcchklefcljaa.Clep
