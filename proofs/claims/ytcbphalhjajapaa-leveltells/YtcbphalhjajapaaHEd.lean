/- Rows of files that come in, opened. No conditions. -/
import Derived.Test.YtcbphalhjajapaaHRow
import Derived.Deep.Slices
import Derived.ChangeOld
import Derived.ProofKit
import Derived.OpenShut
import Derived.SizedLaws
namespace Go.Proofs.Ytcbphalhjajapaa.Clep
open Go.RowKit Go.ChangeShapes Go.WideShapes Go.Deep
set_option linter.unusedVariables false
set_option linter.unusedSimpArgs false

theorem hlist5 {α : Type} {cs : List α} (h : cs.length = 5) : ∃ c0 c1 c2 c3 c4, cs = [c0, c1, c2, c3, c4] := by
  match cs, h with
  | [c0, c1, c2, c3, c4], _ => exact ⟨c0, c1, c2, c3, c4, rfl⟩
theorem hcellsH : Try.prog.cellsOf 27 = 5 := by kernel_rfl
theorem hcellsI : Try.prog.cellsOf 3 = 1 := by kernel_rfl
theorem hcellsB : Try.prog.cellsOf 25 = 1 := by kernel_rfl
theorem hchoose {α : Type} [Inhabited α] {n : Nat} {P : Nat → α → Prop} (h : ∀ i, i < n → ∃ y, P i y) : ∃ q : Nat → α, ∀ i, i < n → P i (q i) := by
  refine ⟨fun i => if hi : i < n then Classical.choose (h i hi) else default, fun i hi => ?_⟩
  simp only [hi, dif_pos]
  exact Classical.choose_spec (h i hi)

section
variable {H : Type} {enc : TypeId × Value → H} {W : World} {base : Nat} {spare : Nat → Bool} {held : Bool}

theorem bytes_u8 : Try.prog.bytesOf 5 = 1 := by kernel_rfl
set_option maxRecDepth 100000 in
theorem bs_trod {fuel : Nat} {cs : List Value} {x : DataW H × List MemPlace} (h : DataW.trod enc Try.prog W base spare held fuel 25 cs = some x) : ∃ a c l, cs = [.slice a l.length c] ∧ Bs W a l.length c l ∧ l.length ≤ 9223372036854775807 ∧ ((∀ q ∈ x.1.weights Try.prog 25, q ≤ reachBytes) → l.length ≤ 140737488355328) := by
  rcases open_ints Try.underlying25 Try.underlying5 (by kernel_rfl) h with ⟨hcs, _⟩ | ⟨x, l, c, zs, hcs, _, hl, hm, hz, rfl, hcell, hwz⟩
  · exact ⟨none, 0, [], hcs, bs_nil W, Nat.zero_le _, fun _ => Nat.zero_le _⟩
  · have hzl : l ≤ zs.length := by rw [hz]; split <;> omega
    have hll : (zs.take l).length = l := by rw [List.length_take]; omega
    refine ⟨some x, c, zs.take l, by rw [hll]; exact hcs, ?_, by rw [hll]; unfold maxLen at hm; omega, fun hq => ?_⟩
    rotate_left
    · have := hq ((zs.take l).length + (zs.drop l).length) (by simp [DataW.weights, Try.underlying25, lits, bytes_u8])
      unfold reachBytes at this
      omega
    rw [hll]
    refine ⟨hll, ⟨hl, fun h => by cases h⟩, range_of (fun z hz' => u8_bounds (hwz z (List.mem_of_mem_take hz'))), fun h0 => ?_⟩
    obtain ⟨b, off, spot⟩ := x
    have hc := hcell 0 (by omega)
    have hspot : spot = none := by simpa [Addr.add] using World.cell?_spot hc
    subst hspot
    refine ⟨b, off, rfl, fun i hi => ?_⟩
    have := hcell i (by omega)
    rw [add_plain] at this
    rw [this]
    simp [List.getD, List.getElem?_take_of_lt hi]
set_option maxRecDepth 100000 in
theorem held_cells {fuel : Nat} {cs : List Value} {x : DataW H × List MemPlace} (h : DataW.trod enc Try.prog W base spare held fuel 27 cs = some x) : ∃ y : He, cs = y.cs ∧ y.ok W ∧ ((∀ q ∈ x.1.weights Try.prog 27, q ≤ reachBytes) → y.sm) := by
  obtain ⟨xs, n, _, rfl, hl, hlen, hf⟩ := DataW.trod_struct Try.underlying27 h
  rw [hcellsH] at hl
  obtain ⟨c0, c1, c2, c3, c4, rfl⟩ := hlist5 hl
  obtain ⟨x0, x1, x2, x3, x4, rfl⟩ := hlist5 (show xs.length = 5 from hlen)
  have g0 := hf 0 _ rfl
  have g1 := hf 1 _ rfl
  have g2 := hf 2 _ rfl
  have g3 := hf 3 _ rfl
  have g4 := hf 4 _ rfl
  simp [hcellsI, hcellsB] at g0 g1 g2 g3 g4
  obtain ⟨N, e0, _, w0⟩ := DataW.trod_int Try.underlying3 g0
  obtain ⟨L, e1, _, w1⟩ := DataW.trod_int Try.underlying3 g1
  obtain ⟨fa, fc, fz, e2, hfb, hfl, hfs⟩ := bs_trod g2
  obtain ⟨ga, gc, gz, e3, hgb, hgl, hgs⟩ := bs_trod g3
  obtain ⟨M, e4, _, w4⟩ := DataW.trod_int Try.underlying3 g4
  cases e0; cases e1; cases e2; cases e3; cases e4
  exact ⟨⟨N, L, fa, fc, fz, ga, gc, gz, M⟩, rfl, ⟨⟨hfb, hfl⟩, ⟨hgb, hgl⟩, i64_bounds w0, i64_bounds w1, i64_bounds w4⟩, fun hq =>
    ⟨hfs (fun q hq2 => hq q (by simp [DataW.weights, Try.underlying27, DataW.weightsEach, hq2])), hgs (fun q hq2 => hq q (by simp [DataW.weights, Try.underlying27, DataW.weightsEach, hq2]))⟩⟩
theorem weights_all {e : TypeId} : ∀ (ds : List (DataW H)) (i : Nat) (d : DataW H), ds[i]? = some d → ∀ q ∈ d.weights Try.prog e, q ∈ DataW.weightsAll Try.prog e ds
  | [], i, d, h, q, hq => by simp at h
  | d0 :: r, 0, d, h, q, hq => by
    simp at h
    subst h
    simp [DataW.weightsAll, hq]
  | d0 :: r, i + 1, d, h, q, hq => by
    simp at h
    simp only [DataW.weightsAll, List.mem_append]
    exact .inr (weights_all r i d h q hq)
set_option maxRecDepth 100000 in
theorem open_helds {a : Option Addr} {len cap : Nat} {d : DataW H} {p : List MemPlace} (h : DataW.Trod enc Try.prog W base spare held 22 (.slice a len cap) d p) :
    ∃ l, (Hs W a len cap l ∧ len ≤ 9223372036854775807) ∧ ((∀ q ∈ d.weights Try.prog 22, q ≤ reachBytes) → ∀ x ∈ l, x.sm) := by
  haveI : Inhabited He := ⟨⟨0, 0, none, 0, [], none, 0, [], 0⟩⟩
  obtain ⟨fuel, hf⟩ := h
  rcases open_slice Try.underlying22 hf with ⟨hcs, _⟩ | ⟨x, l, c, m, n, D, Pl, hcs, _, hl, hm, hmm, hxd, hx⟩
  · simp [Value.cells] at hcs
    obtain ⟨rfl, rfl, rfl⟩ := hcs
    exact ⟨[], ⟨hs_nil W, by omega⟩, by simp⟩
  · simp [Value.cells] at hcs
    obtain ⟨rfl, rfl, rfl⟩ := hcs
    have hlm : len ≤ m := by rw [hmm]; split <;> omega
    have each : ∀ i, i < len → ∃ y : He, (y.ok W ∧ (∀ j u, y.cs[j]? = some u → W.cell? ((x.add (i * 5)).add j) = some u)) ∧ ((∀ q ∈ (D i).weights Try.prog 27, q ≤ reachBytes) → y.sm) := by
      intro i hi
      obtain ⟨cs', h1, h2⟩ := hx i (by omega)
      rw [hcellsH] at h1
      obtain ⟨y, e, hy, hys⟩ := held_cells h2
      obtain ⟨_, hlen, hc⟩ := World.cells?_some h1
      refine ⟨y, ⟨hy, fun j u hu => ?_⟩, hys⟩
      rw [← e] at hu
      rw [hc j (by have := (List.getElem?_eq_some_iff.1 hu).1; omega)]
      exact hu
    obtain ⟨q, hq⟩ := hchoose each
    refine ⟨(List.range len).map q, ⟨⟨by simp, ⟨hl, fun h => by cases h⟩, ?_, fun h0 => ?_⟩, by unfold maxLen at hm; omega⟩, fun hq2 => ?_⟩
    rotate_left 2
    · injection hxd with e1 e2
      intro y hy
      obtain ⟨i, hi, rfl⟩ := List.mem_map.1 hy
      have hi := List.mem_range.1 hi
      refine (hq i hi).2 (fun q' hq' => hq2 q' ?_)
      rw [e1]
      simp only [DataW.weights, Try.underlying22]
      refine List.mem_cons_of_mem _ (List.mem_append_left _ (weights_all _ i (D i) (by simp [hi]) q' hq'))

    · intro y hy
      obtain ⟨i, hi, rfl⟩ := List.mem_map.1 hy
      exact (hq i (List.mem_range.1 hi)).1.1
    · obtain ⟨b, off, spot⟩ := x
      have hc := (hq 0 h0).1.2 0 _ rfl
      have hspot : spot = none := by simpa [Addr.add] using World.cell?_spot hc
      subst hspot
      refine ⟨b, off, rfl, fun i y j u hy hu => ?_⟩
      have hil : i < len := by have := (List.getElem?_eq_some_iff.1 hy).1; simpa using this
      have hfq : y = q i := by
        rw [List.getElem?_map, List.getElem?_range hil] at hy
        exact (Option.some.inj hy).symm
      subst hfq
      have h0' := (hq i hil).1.2 j u hu
      rw [add_plain, add_plain] at h0'
      exact h0'
end

end Go.Proofs.Ytcbphalhjajapaa.Clep
