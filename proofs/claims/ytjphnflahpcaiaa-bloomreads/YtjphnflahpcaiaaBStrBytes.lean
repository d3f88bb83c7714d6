/- A text turned into bytes: new memory that holds the text's bytes and may be written. No conditions. -/
import Derived.Test.YtjphnflahpcaiaaBByte
import Derived.Lib.ConvBytes
namespace Go.Proofs.Ytjphnflahpcaiaa.Clep
open Go.RowKit
set_option linter.unusedVariables false

theorem str_bytes (w : World) (zs : List Int) (hz : ByteL zs) : ∃ cap w', (convert 9 27 (.string (strOfNums zs))).run Try.prog w = .ok (.slice (some ⟨w.heap.size, 0, none⟩) zs.length cap) w' ∧
    zs.length ≤ cap ∧ Hid (Below w.heap.size w w') ∧ Hid (Bs w' (some ⟨w.heap.size, 0, none⟩) zs.length cap zs) ∧ Hid (∀ i, i < zs.length → w'.frozen? ⟨w.heap.size, i, none⟩ = false) ∧ Hid (w.heap.size < w'.heap.size) := by
  have hs := str_size zs
  have hrun := Go.Lib.run_convert_string_bytes (P := Try.prog) w 9 27 5 (strOfNums zs) Try.underlying9 Try.underlying27 Try.underlying5
  rw [hs] at hrun
  refine ⟨_, _, hrun, grownCap_ge _ _ _ _, hide ?_, hide ?_, hide ?_, hide ?_⟩
  · refine ⟨rfl, rfl, rfl, by rw [Go.Lib.bytesWorld_size]; omega, fun k hk => Go.Lib.bytesWorld_at_old w _ _ k hk⟩
  · refine ⟨rfl, ⟨grownCap_ge _ _ _ _, fun h => by cases h⟩, range_of hz, fun _ => ⟨w.heap.size, 0, rfl, fun i hi => ?_⟩⟩
    rw [Nat.zero_add, Go.Lib.bytesWorld_cell w _ _ i (by rw [hs]; exact hi)]
    have hr := hz (zs[i]) (List.getElem_mem hi)
    simp [strOfNums, List.getD, List.getElem?_eq_getElem hi]
    omega
  · intro i hi
    simp [World.frozen?, Go.Lib.bytesWorld_at_new, Go.Lib.bytesCells, hs]
    omega
  · rw [Go.Lib.bytesWorld_size]; omega

end Go.Proofs.Ytjphnflahpcaiaa.Clep
