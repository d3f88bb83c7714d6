/- Slices of slices of items: where they lie, and what they lead to; rows of such slices that a call made. No conditions but the bounds. -/
import Derived.Test.YtkkcchklefcljaaJRowsW
import Derived.Test.YtkkcchklefcljaaOBlk
import Derived.Laws.AppendOwn
import Derived.OwnWalk
namespace Go.Proofs.Ytkkcchklefcljaa.Clep
open Go.RowKit
set_option linter.unusedVariables false
set_option maxRecDepth 10000

/-- Where a slice of (a, cap) from l on lies. -/
def icut (a : Option Addr) (cap l : Nat) : Option Addr := if cap = l then a else a.map (·.add (l * 5))
theorem icut_eq (a : Option Addr) (l h cap : Nat) : sliced a l h cap 5 = .slice (icut a cap l) (h - l) (cap - l) := by
  unfold sliced icut
  rfl
theorem sizeof_it (w : World) : (sizeOf (Try.prog.elem 25)).run Try.prog w = .ok 5 w := by
  go_simp
theorem under_items : Try.prog.underlying 25 = some (.slice (Try.prog.elem 25)) := by kernel_rfl
theorem icut_h (w : World) (a : Option Addr) (len cap : Nat) (k : IntKind) (h : Int) (h0 : 0 ≤ h) (h2 : h ≤ cap) :
    (Instr.sliceAt 25 (.slice a len cap) none (some (.int k h)) none).run Try.prog w = .ok (.slice (icut a cap 0) h.toNat cap) w := by
  rw [run_sliceAt_slice _ _ _ _ _ _ under_items, run_slice_h _ _ _ _ _ under_items k h h0 h2, sizeof_it]
  simp only [Result.andThen, icut_eq, Nat.sub_zero]
theorem icut_l (w : World) (a : Option Addr) (len cap : Nat) (k : IntKind) (l : Int) (h0 : 0 ≤ l) (h1 : l ≤ len) :
    (Instr.sliceAt 25 (.slice a len cap) (some (.int k l)) none none).run Try.prog w = .ok (.slice (icut a cap l.toNat) (len - l.toNat) (cap - l.toNat)) w := by
  rw [run_sliceAt_slice _ _ _ _ _ _ under_items, run_slice_l _ _ _ _ _ under_items k l h0 h1, sizeof_it]
  simp only [Result.andThen, icut_eq]
theorem icut_lh (w : World) (a : Option Addr) (len cap : Nat) (k k' : IntKind) (l h : Int) (h0 : 0 ≤ l) (h1 : l ≤ h) (h2 : h ≤ cap) :
    (Instr.sliceAt 25 (.slice a len cap) (some (.int k l)) (some (.int k' h)) none).run Try.prog w = .ok (.slice (icut a cap l.toNat) (h.toNat - l.toNat) (cap - l.toNat)) w := by
  rw [run_sliceAt_slice _ _ _ _ _ _ under_items, run_slice_lh _ _ _ _ _ under_items k k' l h h0 h1 h2, sizeof_it]
  simp only [Result.andThen, icut_eq]
theorem Is.cut {w : World} {a : Option Addr} {len cap : Nat} {m : List It} (hb : Is w a len cap m) (l h : Nat) (h1 : l ≤ h) (h2 : h ≤ len) : Is w (icut a cap l) (h - l) (cap - l) ((m.take h).drop l) := by
  have hl : ((m.take h).drop l).length = h - l := by rw [List.length_drop, List.length_take, hb.1]; omega
  have hc := hb.2.1.1
  refine ⟨hl, ⟨by omega, fun hn => ?_⟩, fun x hx => hb.2.2.1 x (List.mem_of_mem_take (List.mem_of_mem_drop hx)), fun h0 => ?_⟩
  · have : a = none := by
      cases a with
      | none => rfl
      | some x => unfold icut at hn; split at hn <;> cases hn
    have := hb.2.1.2 this
    omega
  · obtain ⟨b, off, rfl, hcell⟩ := hb.2.2.2 (by omega)
    refine ⟨b, off + l * 5, ?_, fun i x hi => ?_⟩
    · unfold icut
      rw [if_neg (by omega)]
      simp [add_plain]
    · have hx : m[l + i]? = some x := by
        rw [List.getElem?_drop] at hi
        rw [List.getElem?_take] at hi
        split at hi
        · exact hi
        · cases hi
      have := hcell (l + i) x hx
      rwa [show off + (l + i) * 5 = off + l * 5 + i * 5 by omega] at this

def sv (zs : List Sl) : List Value := zs.map fun z => Value.slice z.a z.n z.c
/-- The slice value v owns the slices zs, in a row of the call's own from block B on. -/
def OwnS (w : World) (B : Nat) (v : Value) (zs : List Sl) : Prop := w.ownsRow B 25 1 v zs.length (sv zs)
theorem infoS : (Try.prog.info? 25).map (fun i => (i.zero, i.size, i.bytes)) = some (some (.slice none 0 0), 1, 24) := by kernel_rfl
theorem ownS_rws {w : World} {B : Nat} {v : Value} {zs : List Sl} (h : OwnS w B v zs) (hz : ∀ z ∈ zs, Is w z.a z.n z.c z.l ∧ z.n ≤ 9223372036854775807) :
    ∃ a c, v = .slice a zs.length c ∧ Rws w a zs.length c zs ∧ c ≤ 9223372036854775807 := by
  obtain ⟨hl, ⟨rfl, hn⟩ | ⟨g, cap, cur, rfl, hg, hh, hnc, hcm, hcs, hx⟩⟩ := h
  · exact ⟨none, 0, by rw [hn], ⟨rfl, ⟨by omega, fun _ => ⟨hn, rfl⟩⟩, hz, fun h => by omega⟩, by omega⟩
  · refine ⟨some ⟨g, 0, none⟩, cap, rfl, ⟨rfl, ⟨hnc, fun h => by cases h⟩, hz, fun _ => ⟨g, 0, rfl, fun i z hi => ?_⟩⟩, by unfold maxLen at hcm; omega⟩
    have hc := World.ownsRow.cells (w := w) (base := B) (e := 25) (size := 1) (v := .slice (some ⟨g, 0, none⟩) zs.length cap) (n := zs.length) (xs := sv zs)
      ⟨hl, .inr ⟨g, cap, cur, rfl, hg, hh, hnc, hcm, hcs, hx⟩⟩ (g := g) rfl i (.slice z.a z.n z.c) (by simp [sv, hi])
    rwa [add_plain] at hc
theorem ownS_grown {w w' : World} {B : Nat} {v : Value} {l : List Sl} {row : Option Nat} (h : OwnS w B v l) (hg : w.grownBy w' row) (hne : ∀ k, row = some k → k < B) : OwnS w' B v l := by
  refine World.ownsRow.kept h hg ?_
  cases hv : v.ownBlock with
  | none => exact .inl rfl
  | some k =>
    refine .inr fun e => ?_
    have := (World.ownsRow.lt h k hv).1
    have := hne k e.symm
    omega
theorem ownS_keep {w w' : World} {B : Nat} {v : Value} {l : List Sl} (h : OwnS w B v l) (hb : Below w.heap.size w w') : OwnS w' B v l := ownS_grown h (gb_below hb none) (by simp)
theorem ownS_snoc {w : World} {B : Nat} {v : Value} {zs : List Sl} {z : Sl} (h : w.ownsRow B 25 1 v (zs.length + 1) (sv zs ++ [.slice z.a z.n z.c])) : OwnS w B v (zs ++ [z]) := by
  unfold OwnS sv; simpa [sv] using h

/-- What the document's own Rows makes of the items that may be, each a row. -/
def qL (l : List It) : List It := (l.filter It.ok).foldl (fun o x => putL x o) []
theorem fold_putL (P : It → Prop) : ∀ (l o : List It), (∀ x ∈ l, P x) → (∀ x ∈ o, P x) → ∀ x ∈ l.foldl (fun o x => putL x o) o, P x
  | [], o, _, ho => ho
  | y :: r, o, hl, ho => fold_putL P r (putL y o) (fun x hx => hl x (by simp [hx])) (fun x hx => by
    rcases putL_mem y o x hx with rfl | h
    · exact hl _ (by simp)
    · exact ho x h)
theorem qL_all (P : It → Prop) (l : List It) (h : ∀ x ∈ l, P x) : ∀ x ∈ qL l, P x := fold_putL P _ [] (fun x hx => h x ((List.mem_filter.1 hx).1)) (by simp)
theorem qL_ok (l : List It) : ∀ x ∈ qL l, x.ok = true := fold_putL (fun x => x.ok = true) _ [] (fun x hx => (List.mem_filter.1 hx).2) (by simp)
theorem fold_rise : ∀ (l o : List It), Rise o → Rise (l.foldl (fun o x => putL x o) o)
  | [], o, h => h
  | y :: r, o, h => fold_rise r (putL y o) (putL_rise y o h)
theorem qL_rise (l : List It) : Rise (qL l) := fold_rise _ [] List.Pairwise.nil
theorem fold_len : ∀ (l o : List It), (l.foldl (fun o x => putL x o) o).length ≤ o.length + l.length
  | [], o => by simp
  | y :: r, o => by
    have h1 := fold_len r (putL y o)
    have h2 := putL_len y o
    simp only [List.foldl_cons, List.length_cons]; omega
theorem qL_len (l : List It) : (qL l).length ≤ l.length := by
  have h1 := fold_len (l.filter It.ok) []
  have h2 := List.length_filter_le It.ok l
  unfold qL; simp at h1; omega
theorem rows_fold : ∀ (zs : List Sl) (m o : List It), zs.map Sl.l = m.map (fun x => [x]) → zs.foldl (fun o z => mg o z.l) o = m.foldl (fun o x => putL x o) o
  | [], [], o, _ => rfl
  | [], _ :: _, o, h => by simp at h
  | _ :: _, [], o, h => by simp at h
  | z :: zs, x :: m, o, h => by
    simp only [List.map_cons, List.cons.injEq] at h
    simp only [List.foldl_cons]
    rw [h.1, mg_one]
    exact rows_fold zs m (putL x o) h.2
theorem rows_q (zs : List Sl) (l : List It) (h : zs.map Sl.l = (l.filter It.ok).map (fun x => [x])) : rowsL zs = qL l := rows_fold zs _ [] h
theorem sum_q : ∀ (zs : List Sl) (m : List It), zs.map Sl.l = m.map (fun x => [x]) → sumL zs = m.length
  | [], [], _ => rfl
  | [], _ :: _, h => by simp at h
  | _ :: _, [], h => by simp at h
  | z :: zs, x :: m, h => by
    simp only [List.map_cons, List.cons.injEq] at h
    have := sum_q zs m h.2
    unfold sumL at *
    simp only [List.map_cons, List.sum_cons, this, h.1, List.length_cons, List.length_nil]
    omega

end Go.Proofs.Ytkkcchklefcljaa.Clep
