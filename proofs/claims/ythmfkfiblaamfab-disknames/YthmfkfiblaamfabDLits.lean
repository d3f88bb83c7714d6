/- A constant text's bytes, and a text turned into bytes: new memory beside the Disk. No conditions. -/
import Derived.Test.YthmfkfiblaamfabDHeld
import Derived.Lib.SlBytesConst
import Derived.Lib.ConvBytes
namespace Go.Proofs.Ythmfkfiblaamfab.Clep
open Go.RowKit Go.Maps
set_option linter.unusedVariables false

theorem bs_lit (w : World) (zs : List Int) (hz : ∀ z ∈ zs, 0 ≤ z ∧ z < 256) (arr : Array Value) (ha : arr = (bv zs).toArray) (L : Nat) (hL : zs.length = L) (fr : Nat × Nat) : Bs (w.alloc (.cells arr 5 fr)) (some ⟨w.heap.size, 0, none⟩) L L zs := by
  subst ha hL
  refine ⟨rfl, ⟨Nat.le_refl _, fun h => by cases h⟩, range_of hz, fun _ => ⟨w.heap.size, 0, rfl, fun i hi => ?_⟩⟩
  refine cell_of (MapKept.heap_alloc w _).1 ?_
  rw [Nat.zero_add]
  simp [bv, hi]
theorem num_lit (F : Nat → Prop) (w : World) (ks : List Int) (hk : ∀ k ∈ ks, (Lit.int .i64 k).wf = true) (arr : Array Value) (ha : arr = (ks.map (Value.int .i64)).toArray) (hF : F w.heap.size) (L : Nat) (hL : ks.length = L) (hm : L ≤ 9223372036854775807) : NumV F (w.alloc (.cells arr 3)) (.slice (some ⟨w.heap.size, 0, none⟩) L L) ks := by
  subst ha hL
  refine ⟨_, _, rfl, Nat.le_refl _, hm, hk, fun _ => ⟨w.heap.size, 0, rfl, hF, fun i hi => ?_⟩⟩
  refine cell_of (MapKept.heap_alloc w _).1 ?_
  rw [Nat.zero_add]
  simp [hi]
/-- Bytes of a constant text. -/
theorem conv_lit (w : World) (zs : List Int) (hz : ∀ z ∈ zs, 0 ≤ z ∧ z < 256) (arr : Array Value) (ha : arr = (bv zs).toArray) (L : Nat) (hL : zs.length = L) :
    ∃ w', (convert 31 31 (.slice (some ⟨w.heap.size, 0, none⟩) L L)).run Try.prog (w.alloc (.cells arr 5)) = .ok (.slice (some ⟨w.heap.size, 0, none⟩) L L) w' ∧
      Hid (Below w.heap.size w w') ∧ Hid (Bs w' (some ⟨w.heap.size, 0, none⟩) L L zs) ∧ Hid (w.heap.size < w'.heap.size) :=
  ⟨_, Go.Lib.run_convert_bytes_const (P := Try.prog) w 31 5 arr L L Try.underlying31 Try.underlying5, hide ((Below.refl _ w).alloc (Nat.le_refl _) _), hide (bs_lit w zs hz arr ha L hL _), hide (by simp)⟩
theorem str_bytes (w : World) (zs : List Int) (hz : ∀ z ∈ zs, 0 ≤ z ∧ z < 256) : ∃ cap w', (convert 9 31 (.string (strOfNums zs))).run Try.prog w = .ok (.slice (some ⟨w.heap.size, 0, none⟩) zs.length cap) w' ∧
    zs.length ≤ cap ∧ Hid (Below w.heap.size w w') ∧ Hid (Bs w' (some ⟨w.heap.size, 0, none⟩) zs.length cap zs) ∧ Hid (∀ i, i < zs.length → w'.frozen? ⟨w.heap.size, i, none⟩ = false) ∧ Hid (w.heap.size < w'.heap.size) := by
  have hs := str_size zs
  have hrun := Go.Lib.run_convert_string_bytes (P := Try.prog) w 9 31 5 (strOfNums zs) Try.underlying9 Try.underlying31 Try.underlying5
  rw [hs] at hrun
  refine ⟨_, _, hrun, grownCap_ge _ _ _ _, hide ?_, hide ?_, hide ?_, hide ?_⟩
  · refine ⟨rfl, rfl, rfl, by rw [Go.Lib.bytesWorld_size]; omega, fun k hk => Go.Lib.bytesWorld_at_old w _ _ k hk⟩
  · refine ⟨rfl, ⟨grownCap_ge _ _ _ _, fun h => by cases h⟩, range_of hz, fun _ => ⟨w.heap.size, 0, rfl, fun i hi => ?_⟩⟩
    rw [Nat.zero_add, Go.Lib.bytesWorld_cell w _ _ i (by rw [hs]; exact hi)]
    have hr := hz (zs[i]) (List.getElem_mem hi)
    simp [strOfNums, List.getD, List.getElem?_eq_getElem hi]
    omega
  · intro i hi
    simp [World.frozen?, Go.Lib.bytesWorld_at_new, Go.Lib.bytesCells, hs]
    omega
  · rw [Go.Lib.bytesWorld_size]; omega

end Go.Proofs.Ythmfkfiblaamfab.Clep
