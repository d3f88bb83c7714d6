/- What slices.Clone of items does when called, of nil, too; slices of rows of rows. Conditions: at most a million items. -/
import Derived.Test.YtkkcchklefcljaaOCut
namespace Go.Proofs.Ytkkcchklefcljaa.Clep
open Go.RowKit
set_option linter.unusedVariables false

set_option maxRecDepth 100000 in
theorem clone_all (a : Option Addr) (n c : Nat) (l : List It) (w : World) (h : Is w a n c l) (hn : n ≤ 1000000) :
    Calls Try.prog 25 #[.slice a n c] w fun e w' => ∃ v, e = .returned v ∧ OwnI w' w.heap.size v l ∧ Below w.heap.size w w' := by
  cases a with
  | none =>
    obtain ⟨rfl, rfl⟩ := h.2.1.2 rfl
    have hl : l = [] := List.eq_nil_of_length_eq_zero h.1
    subst hl
    have heq : ∀ (w : World) (a : Option Addr) (n c : Nat), (binOp .eql 25 (.slice a n c) (.slice none 0 0)).run Try.prog w = .ok (.bool a.isNone) w := fun w a n c => by
      have := run_equal_slice_nil (P := Try.prog) (w := w) 25 36 a n c Try.underlying25
      simp [binOp, this, Result.andThen]
    go_enter Try.func25, Try.ntmps25
    go_wp2_with fail
    go_ret
    exact ⟨_, rfl, ownI_nil _ _, Below.refl _ _⟩
  | some ad =>
    rcases Nat.eq_zero_or_pos n with h0 | h0
    · subst h0
      have hl : l = [] := List.eq_nil_of_length_eq_zero h.1
      subst hl
      have heq : ∀ (w : World) (a : Option Addr) (n c : Nat), (binOp .eql 25 (.slice a n c) (.slice none 0 0)).run Try.prog w = .ok (.bool a.isNone) w := fun w a n c => by
        have := run_equal_slice_nil (P := Try.prog) (w := w) 25 36 a n c Try.underlying25
        simp [binOp, this, Result.andThen]
      have A1 := (Below.refl _ w).alloc (Nat.le_refl _) (Obj.cells #[] 36)
      have h1 := hide (h.below A1 (Nat.le_refl _))
      have hO := hide (ownI_empty (w := w.alloc (Obj.cells #[] 36)) (B := w.heap.size) (g := w.heap.size) (hpS w _ _ rfl) (Nat.le_refl _))
      have B1 := hide A1
      have HL := hide (show ([] : List It).length + 0 ≤ 3518437208883 by simp)
      have HB := hide (show w.heap.size ≤ (w.alloc (Obj.cells #[] 36)).heap.size by simp)
      clear h A1
      go_enter Try.func25, Try.ntmps25
      go_wp2_with (first
        | (at_builtin; refine wpList_append_items rfl _ _ rfl w.heap.size _ [] rfl hO.out _ 0 c [] rfl h1.out HL.out HB.out ?_)
        | fail)
      intro v' w' ho hg hbk
      go_wp2
      go_ret
      exact ⟨_, rfl, ho, B1.out.grown hg (by simp) hbk⟩
    · obtain ⟨b, off, e, _⟩ := h.2.2.2 h0
      cases e
      exact clone_any b off n c l w h hn

/-- Where a slice of rows (a, cap) from l on lies. -/
def scut (a : Option Addr) (cap l : Nat) : Option Addr := if cap = l then a else a.map (·.add l)
theorem scut_eq (a : Option Addr) (l h cap : Nat) : sliced a l h cap 1 = .slice (scut a cap l) (h - l) (cap - l) := by
  unfold sliced scut
  simp
theorem sizeof_rw (w : World) : (sizeOf (Try.prog.elem 22)).run Try.prog w = .ok 1 w := by
  go_simp
theorem under_rows : Try.prog.underlying 22 = some (.slice (Try.prog.elem 22)) := by kernel_rfl
theorem scut_h (w : World) (a : Option Addr) (len cap : Nat) (k : IntKind) (h : Int) (h0 : 0 ≤ h) (h2 : h ≤ cap) :
    (Instr.sliceAt 22 (.slice a len cap) none (some (.int k h)) none).run Try.prog w = .ok (.slice (scut a cap 0) h.toNat cap) w := by
  rw [run_sliceAt_slice _ _ _ _ _ _ under_rows, run_slice_h _ _ _ _ _ under_rows k h h0 h2, sizeof_rw]
  simp only [Result.andThen, scut_eq, Nat.sub_zero]
theorem scut_l (w : World) (a : Option Addr) (len cap : Nat) (k : IntKind) (l : Int) (h0 : 0 ≤ l) (h1 : l ≤ len) :
    (Instr.sliceAt 22 (.slice a len cap) (some (.int k l)) none none).run Try.prog w = .ok (.slice (scut a cap l.toNat) (len - l.toNat) (cap - l.toNat)) w := by
  rw [run_sliceAt_slice _ _ _ _ _ _ under_rows, run_slice_l _ _ _ _ _ under_rows k l h0 h1, sizeof_rw]
  simp only [Result.andThen, scut_eq]
theorem Rws.cut {w : World} {a : Option Addr} {len cap : Nat} {m : List Sl} (hb : Rws w a len cap m) (l h : Nat) (h1 : l ≤ h) (h2 : h ≤ len) : Rws w (scut a cap l) (h - l) (cap - l) ((m.take h).drop l) := by
  have hl : ((m.take h).drop l).length = h - l := by rw [List.length_drop, List.length_take, hb.1]; omega
  have hc := hb.2.1.1
  refine ⟨hl, ⟨by omega, fun hn => ?_⟩, fun x hx => hb.2.2.1 x (List.mem_of_mem_take (List.mem_of_mem_drop hx)), fun h0 => ?_⟩
  · have : a = none := by
      cases a with
      | none => rfl
      | some x => unfold scut at hn; split at hn <;> cases hn
    have := hb.2.1.2 this
    omega
  · obtain ⟨b, off, rfl, hcell⟩ := hb.2.2.2 (by omega)
    refine ⟨b, off + l, ?_, fun i x hi => ?_⟩
    · unfold scut
      rw [if_neg (by omega)]
      simp [add_plain]
    · have hx : m[l + i]? = some x := by
        rw [List.getElem?_drop] at hi
        rw [List.getElem?_take] at hi
        split at hi
        · exact hi
        · cases hi
      have := hcell (l + i) x hx
      rwa [show off + (l + i) = off + l + i by omega] at this

end Go.Proofs.Ytkkcchklefcljaa.Clep
