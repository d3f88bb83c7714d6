/- A set of whole numbers; what bytes.Clone does when called (over the library's contract). No conditions. -/
import Derived.Test.YtcbphalhjajapaaHRow
import Derived.Test.YtcbphalhjajapaaHShelf
import Derived.Maps.OwnSet
import Derived.Maps.OwnOps
import Derived.Maps.Views
import Derived.WalkSpells
namespace Go.Proofs.Ytcbphalhjajapaa.Clep
open Go.RowKit Go.Maps
set_option linter.unusedVariables false
set_option maxRecDepth 10000
set_option linter.unusedSimpArgs false

/-- Block B is a set of the numbers ks. -/
def Mps (w : World) (B n : Nat) (ks : List Int) : Prop := ∃ D : DataW Unit, w.ownsMap Try.prog 3 unitElem B n D ∧ ∀ s : Int, Maps.has D (.int .i64 s) = ks.contains s
theorem Mps.kept {w w' : World} {row : Option Nat} {B n : Nat} {ks : List Int} (h : Mps w B n ks) (hg : w.grownBy w' row) (hne : some B ≠ row) : Mps w' B n ks := by
  obtain ⟨D, ho, hD⟩ := h
  exact ⟨D, ho.kept hg hne, hD⟩
theorem Mps.keep {w w' : World} {B n : Nat} {ks : List Int} (h : Mps w B n ks) (hb : Below w.heap.size w w') : Mps w' B n ks := h.kept (fgb_below hb none) (by simp)
theorem mps_new (w : World) : Mps (w.alloc (.map #[] 0)) w.heap.size 0 [] := ⟨.map [], World.ownsMap_made _ _ _ _, fun s => rfl⟩
theorem lawI : Keyed Try.prog 3 := int_keyed Try.underlying3
theorem zeroU (w : World) : (zeroValue 42).run Try.prog w = .ok (.agg #[]) w := by kernel_rfl
theorem i64wf {s : Int} (h : -9223372036854775808 ≤ s ∧ s ≤ 9223372036854775807) : (Lit.int .i64 s).wf = true := by
  simp only [Lit.wf, IntKind.min, IntKind.max, IntKind.signed, IntKind.bits, Bool.and_eq_true, decide_eq_true_eq, if_true]
  omega
theorem makeset_hint (n : Int) (w : World) : (Instr.makeMap 66 (some (.int .i64 n))).run Try.prog w = .ok (.map (some w.heap.size)) (w.alloc (.map #[] 0)) := by
  simp [Instr.makeMap, go_sem]
theorem wpList_look_mps {w : World} {ops : Array Oper} {rest : List Oper} {o : Oper} {a : Act} {Q : Exit → Act → World → Prop} (hgd : o.guard = none) (m x : Operand) (ho : o.op = .lookup 66 m x true) (B n : Nat) (ks : List Int) (hm : a.eval m = .map (some B)) (h : Mps w B n ks) (z : Int) (hx : a.eval x = .int .i64 z) (hz : -9223372036854775808 ≤ z ∧ z ≤ 9223372036854775807) (b : Bool) (hb : ks.contains z = b)
    (hK : wpList Try.prog ops Q rest (a.put o.dst (.tuple #[.agg #[], .bool b])) w) : wpList Try.prog ops Q (o :: rest) a w := by
  obtain ⟨D, hown, hh⟩ := h
  refine wpList_lookup_own_unit w hgd m x _ ho 3 42 lawI Try.underlying66 (zeroU _) B n D hm hown _ (.int .i64 z) hx (keyOf_int_mk Try.underlying3 (i64wf hz)) ?_
  rw [hh z, hb]
  exact hK
theorem wpList_put_mps {w : World} {ops : Array Oper} {rest : List Oper} {o : Oper} {a : Act} {Q : Exit → Act → World → Prop} (hgd : o.guard = none) (m x v : Operand) (ho : o.op = .mapUpdate 66 m x v) (B n : Nat) (ks : List Int) (hm : a.eval m = .map (some B)) (h : Mps w B n ks) (hn : n ≤ 1000000) (z : Int) (hx : a.eval x = .int .i64 z) (hz : -9223372036854775808 ≤ z ∧ z ≤ 9223372036854775807) (hv : a.eval v = .agg #[])
    (hK : ∀ w', Mps w' B (n + 1) (ks ++ [z]) → w.grownBy w' (some B) → wpList Try.prog ops Q rest (a.put o.dst undef) w') : wpList Try.prog ops Q (o :: rest) a w := by
  obtain ⟨D, hown, hh⟩ := h
  refine wpList_mapUpdate_own w hgd m x v _ ho 3 42 lawI Try.underlying66 unitElem B n D hm hown (by unfold maxLen; omega) _ _ (.int .i64 z) hx hv (keyOf_int_mk Try.underlying3 (i64wf hz)) _ [] unitElem_mk ?_
  intro w' ho' hg'
  refine hK w' ⟨_, ho', fun s => ?_⟩ hg'
  have hm := hown.isMap
  rw [List.contains_append]
  by_cases e : s = z
  · subst e
    rw [has_put_same hm (show WideAt.IsKeyLit (.int .i64 s) from trivial)]
    simp
  · rw [has_put_other (fun h => e (by injection h)), hh s]
    simp [e]

/-- A copy of bytes. -/
theorem bclone_any (a : Option Addr) (n c : Nat) (zs : List Int) (w : World) (h : Bs w a n c zs) (hn : n ≤ 140737488355328) :
    Calls Try.prog 38 #[.slice a n c] w fun e w' => ∃ a' c', e = .returned (.slice a' n c') ∧ Bs w' a' n c' zs ∧ (∀ p, a' = some p → w.heap.size ≤ p.block ∧ p.block < w'.heap.size) ∧ Below w.heap.size w w' := by
  cases a with
  | none =>
    obtain ⟨rfl, rfl⟩ := h.2.1.2 rfl
    refine (Any.bytes_Clone_nil Try.cloneB _ _ w).mono ?_
    rintro e w' ⟨rfl, rfl⟩
    exact ⟨none, 0, rfl, h, fun p e => (by cases e), Below.refl _ _⟩
  | some ad =>
    have hc := bs_cells h ad rfl
    refine (Any.bytes_Clone_at Try.cloneB ad n c zs w h.1 hn (fun i hi => hc i _ (by
      have hi2 : i < zs.length := by rw [h.1]; exact hi
      simp [bv, List.getD, List.getElem?_eq_getElem hi2]))).mono ?_
    rintro e w' ⟨v, rfl, ho, _, hb⟩
    have hz := h.2.2.1
    have hl := h.1
    subst hl
    obtain ⟨hl, ⟨rfl, hn0⟩ | ⟨g, cap, cur, rfl, hg, hh, hnc, hcm, hcs, hx⟩⟩ := ho
    · have hz0 : zs = [] := List.eq_nil_of_length_eq_zero hn0
      subst hz0
      exact ⟨none, 0, rfl, bs_nil _, fun p e => (by cases e), hb⟩
    · have ho2 : Own w' w.heap.size (.slice (some ⟨g, 0, none⟩) zs.length cap) zs := ⟨hl, .inr ⟨g, cap, cur, rfl, hg, hh, hnc, hcm, hcs, hx⟩⟩
      refine ⟨some ⟨g, 0, none⟩, cap, rfl, ⟨rfl, ⟨hnc, fun e => by cases e⟩, hz, fun _ => ⟨g, 0, rfl, fun i hi => ?_⟩⟩, fun p e => by cases e; exact ⟨hg, (Array.getElem?_eq_some_iff.1 hh).1⟩, hb⟩
      have := World.ownsRow.cells ho2 (g := g) rfl i (.int .u8 (zs.getD i 0)) (by simp [bv, List.getD, hi])
      rwa [add_plain] at this

end Go.Proofs.Ytcbphalhjajapaa.Clep
