/- Rows of numbers (slices of uint64), and what they come to by sevens. No conditions. -/
import Derived.Test.YtgopcaemgcnapaaNTake
import Derived.Test.YtgopcaemgcnapaaNRefPut
import Derived.Test.YtgopcaemgcnapaaNRefTake
import Derived.Test.YtgopcaemgcnapaaAppend
import Derived.Test.YtgopcaemgcnapaaKept
namespace Go.Proofs.Ytgopcaemgcnapaa.Clep
open Go.RowKit
set_option linter.unusedVariables false
set_option maxRecDepth 10000

/-- The slice value (ao, len, cap) leads to the numbers ns in w. -/
def Us (w : World) (ao : Option Addr) (len cap : Nat) (ns : List Int) : Prop :=
  ns.length = len ∧ (len ≤ cap ∧ (ao = none → len = 0 ∧ cap = 0)) ∧ (∀ i, 0 ≤ ns.getD i 0 ∧ ns.getD i 0 ≤ 18446744073709551615) ∧
    (0 < len → ∃ b off, ao = some ⟨b, off, none⟩ ∧ ∀ i, i < len → w.cell? ⟨b, off + i, none⟩ = some (.int .u64 (ns.getD i 0)))

theorem urange_of {ns : List Int} (h : ∀ z ∈ ns, 0 ≤ z ∧ z ≤ 18446744073709551615) : ∀ i, 0 ≤ ns.getD i 0 ∧ ns.getD i 0 ≤ 18446744073709551615 := by
  intro i
  rcases Nat.lt_or_ge i ns.length with hi | hi
  · have : ns.getD i 0 = ns[i] := by simp [List.getD, List.getElem?_eq_getElem hi]
    rw [this]; exact h _ (List.getElem_mem hi)
  · have : ns.getD i 0 = 0 := by simp [List.getD, List.getElem?_eq_none hi]
    rw [this]; omega
theorem us_nil (w : World) : Us w none 0 0 [] := ⟨rfl, ⟨Nat.le_refl _, fun _ => ⟨rfl, rfl⟩⟩, urange_of (by simp), fun h => by omega⟩
theorem us_of_row {w : World} {a : Option Addr} {len cap : Nat} {zs : List Int}
    (h : (a = none ∧ len = 0 ∧ cap = 0 ∧ zs = []) ∨ ∃ x, a = some x ∧ len ≤ cap ∧ cap ≤ maxLen ∧ zs.length = cap ∧ (∀ i, i < zs.length → w.cell? (x.add i) = some (.int .u64 (zs.getD i 0))) ∧ ∀ n ∈ zs, (Lit.int .u64 n).wf = true) :
    Us w a len cap (zs.take len) ∧ len ≤ 9223372036854775807 := by
  rcases h with ⟨rfl, rfl, rfl, rfl⟩ | ⟨x, rfl, hl, hm, hz, hcell, hwz⟩
  · exact ⟨us_nil w, by omega⟩
  · unfold maxLen at hm
    refine ⟨⟨by rw [List.length_take]; omega, ⟨hl, fun h => by cases h⟩, urange_of fun z hz => u64_bounds (hwz z (List.mem_of_mem_take hz)), fun h0 => ?_⟩, by omega⟩
    obtain ⟨b, off, spot⟩ := x
    have hc := hcell 0 (by omega)
    have hspot : spot = none := by simpa [Addr.add] using World.cell?_spot hc
    subst hspot
    refine ⟨b, off, rfl, fun i hi => ?_⟩
    have := hcell i (by omega)
    rw [add_plain] at this
    rw [this]
    simp [List.getD, hi]
theorem Us.below {w w' : World} {B : Nat} {ao : Option Addr} {len cap : Nat} {zs : List Int} (h : Us w ao len cap zs) (hb : Below B w w') (hB : w.heap.size ≤ B) : Us w' ao len cap zs := by
  refine ⟨h.1, h.2.1, h.2.2.1, fun h0 => ?_⟩
  obtain ⟨b, off, ho, hc⟩ := h.2.2.2 h0
  refine ⟨b, off, ho, fun i hi => ?_⟩
  rw [hb.cell (p := ⟨b, off + i, none⟩) (Nat.lt_of_lt_of_le (World.block_lt_of_cell? w _ (hc i hi)) hB)]
  exact hc i hi

/-- The first k numbers, by sevens. -/
def rows (ns : List Int) (k : Nat) : List Int := (ns.take k).flatMap pu
def rest (ns : List Int) (k : Nat) : List Int := (ns.drop k).flatMap pu
theorem rows_succ (ns : List Int) (k : Nat) (h : k < ns.length) : rows ns (k + 1) = rows ns k ++ pu (ns.getD k 0) := by
  unfold rows
  rw [List.take_succ_eq_append_getElem h, List.flatMap_append]
  simp [List.getD, List.getElem?_eq_getElem h]
theorem rest_at (ns : List Int) (k : Nat) (h : k < ns.length) : rest ns k = pu (ns.getD k 0) ++ rest ns (k + 1) := by
  unfold rest
  rw [drop_get ns k h, List.flatMap_cons]
theorem rest_end (ns : List Int) (k : Nat) (h : ns.length ≤ k) : rest ns k = [] := by
  unfold rest; rw [List.drop_eq_nil_of_le h]; rfl
theorem rows_rest (ns : List Int) (k : Nat) : rows ns k ++ rest ns k = rest ns 0 := by
  unfold rows rest
  rw [← List.flatMap_append, List.take_append_drop, List.drop_zero]
theorem rows_all (ns : List Int) (k : Nat) (h : ns.length ≤ k) : rows ns k = rest ns 0 := by
  rw [← rows_rest ns k, rest_end ns k h, List.append_nil]
theorem rows_len (ns : List Int) : ∀ k, k ≤ ns.length → (rows ns k).length ≤ 10 * k
  | 0, _ => by simp [rows]
  | k + 1, h => by
    have ih := rows_len ns k (by omega)
    have := pu_len (ns.getD k 0)
    rw [rows_succ ns k (by omega), List.length_append]; omega
theorem rows_range (ns : List Int) (hz : ∀ i, 0 ≤ ns.getD i 0 ∧ ns.getD i 0 ≤ 18446744073709551615) (k : Nat) : ∀ z ∈ rows ns k, 0 ≤ z ∧ z < 256 := by
  intro z h
  unfold rows at h
  obtain ⟨n, hn, hz'⟩ := List.mem_flatMap.1 h
  obtain ⟨j, hj, rfl⟩ := List.getElem_of_mem (List.mem_of_mem_take hn)
  have := hz j
  have e : ns.getD j 0 = ns[j] := by simp [List.getD, List.getElem?_eq_getElem hj]
  rw [e] at this
  exact pu_range _ this.1 this.2 z hz'
theorem drop_rows (ns : List Int) (k : Nat) : (rest ns 0).drop (rows ns k).length = rest ns k := by
  rw [← rows_rest ns k]; simp
theorem tk_rest (ns : List Int) (hz : ∀ i, 0 ≤ ns.getD i 0 ∧ ns.getD i 0 ≤ 18446744073709551615) (k : Nat) (h : k < ns.length) : tk (rest ns k) 0 0 = (ns.getD k 0, ((pu (ns.getD k 0)).length : Int), 0) := by
  rw [rest_at ns k h, tk_pu _ _ (hz k).1 (hz k).2]
end Go.Proofs.Ytgopcaemgcnapaa.Clep
