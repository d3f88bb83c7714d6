/- A text turned into bytes: a row that may be written. Conditions: at most 2^63 bytes. -/
import Derived.Test.YtgopcaemgcnapaaCrcText
import Derived.Lib.ConvBytes
namespace Go.Proofs.Ytgopcaemgcnapaa.Clep
open Go.RowKit
set_option linter.unusedVariables false
set_option maxRecDepth 10000

/-- A row of bytes in block g, with room up to cap, that may be written. -/
structure Rm (w : World) (g cap : Nat) (zs : List Int) : Prop where
  le : zs.length ≤ cap
  max : cap ≤ maxLen
  range : ∀ z ∈ zs, 0 ≤ z ∧ z < 256
  cell : ∀ i, i < zs.length → w.cell? ⟨g, i, none⟩ = some (.int .u8 (zs.getD i 0))
  some : ∀ i, i < cap → (w.cell? ⟨g, i, none⟩).isSome = true
  free : ∀ i, i < cap → w.frozen? ⟨g, i, none⟩ = false
theorem rm_str (w : World) (zs : List Int) (hz : ∀ z ∈ zs, 0 ≤ z ∧ z < 256) (hl : zs.length ≤ maxLen) : ∃ cap w', (convert 9 35 (.string (strOfNums zs))).run Try.prog w = .ok (.slice (some ⟨w.heap.size, 0, none⟩) zs.length cap) w' ∧
    zs.length ≤ cap ∧ Hid (Below w.heap.size w w') ∧ Hid (Rm w' w.heap.size cap zs) := by
  have hs := str_size zs
  have hrun := Go.Lib.run_convert_string_bytes (P := Try.prog) w 9 35 5 (strOfNums zs) Try.underlying9 Try.underlying35 Try.underlying5
  rw [hs] at hrun
  have hge := grownCap_ge w zs.length 0 5
  have hcs : (Go.Lib.bytesCells w 5 (strOfNums zs)).size = grownCap w zs.length 0 5 := by
    have h1 : (strOfNums zs).data.size = zs.length := hs
    simp only [Go.Lib.bytesCells, Array.size_append, Array.size_map, Array.size_replicate, h1, hs]
    omega
  refine ⟨_, _, hrun, hge, hide ?_, hide ⟨hge, grownCap_le_maxLen _ _ _ _ hl, hz, fun i hi => ?_, fun i hi => ?_, fun i hi => ?_⟩⟩
  · exact ⟨rfl, rfl, rfl, by rw [Go.Lib.bytesWorld_size]; omega, fun k hk => Go.Lib.bytesWorld_at_old w _ _ k hk⟩
  · rw [Go.Lib.bytesWorld_cell w _ _ i (by rw [hs]; exact hi)]
    have hr := hz (zs[i]) (List.getElem_mem hi)
    simp [strOfNums, List.getD, List.getElem?_eq_getElem hi]
    omega
  · simp only [World.cell?, Go.Lib.bytesWorld_at_new]
    rw [Array.getElem?_eq_getElem (by rw [hcs]; exact hi)]
    rfl
  · simp only [World.frozen?, Go.Lib.bytesWorld_at_new]
    simp [hcs]
    omega
theorem xor_range (a b : Int) : 0 ≤ bits BinOp.xor IntKind.u8 a b ∧ bits BinOp.xor IntKind.u8 a b < 256 := by
  have e : bits .xor .u8 a b = IntKind.u8.wrap ((BitVec.ofInt 8 a ^^^ BitVec.ofInt 8 b).toNat : Int) := rfl
  rw [e]
  simp [IntKind.wrap, IntKind.bits, IntKind.signed]
  omega
theorem Rm.set {w : World} {g cap : Nat} {zs : List Int} (h : Rm w g cap zs) (p : Nat) (hp : p < zs.length) (v : Int) (hv : 0 ≤ v ∧ v < 256) : Rm (w.setCell ⟨g, p, none⟩ (.int .u8 v)) g cap (zs.set p v) := by
  refine ⟨by rw [List.length_set]; exact h.le, h.max, fun z hz => ?_, fun i hi => ?_, fun i hi => ?_, fun i hi => ?_⟩
  · rcases List.mem_or_eq_of_mem_set hz with q | rfl
    · exact h.range z q
    · exact hv
  · rw [List.length_set] at hi
    by_cases e : i = p
    · subst e
      rw [World.cell?_setCell_same w ⟨g, i, none⟩ _ (h.cell i hi)]
      simp [List.getD, hi]
    · rw [World.cell?_setCell_other w ⟨g, p, none⟩ ⟨g, i, none⟩ _ (by intro q; injection q with q1 q2; omega), h.cell i hi]
      simp [List.getD, Ne.symm e]
  · by_cases e : i = p
    · subst e
      rw [World.cell?_setCell_same w ⟨g, i, none⟩ _ (h.cell i hp)]; rfl
    · rw [World.cell?_setCell_other w ⟨g, p, none⟩ ⟨g, i, none⟩ _ (by intro q; injection q with q1 q2; omega)]
      exact h.some i hi
  · simp [h.free i hi]

end Go.Proofs.Ytgopcaemgcnapaa.Clep
