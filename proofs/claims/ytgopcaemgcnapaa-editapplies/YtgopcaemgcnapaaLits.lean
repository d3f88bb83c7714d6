/- Bytes written out on the spot and of constant texts; sum.Open at a Seal. No conditions but the kinds' own bounds. -/
import Derived.Test.YtgopcaemgcnapaaSeal
import Derived.Lib.SlBytesConst
namespace Go.Proofs.Ytgopcaemgcnapaa.Clep
open Go.RowKit
set_option linter.unusedVariables false
set_option maxRecDepth 10000

/-- Bytes that were written out on the spot. -/
theorem bs_newL (w : World) (zs : List Int) (hz : ByteL zs) (arr : Array Value) (ha : arr = (bv zs).toArray) (L : Nat) (hL : zs.length = L) (fr : Nat × Nat) : Bs (w.alloc (.cells arr 5 fr)) (some ⟨w.heap.size, 0, none⟩) L L zs := by
  subst ha hL
  refine ⟨rfl, ⟨Nat.le_refl _, fun h => by cases h⟩, range_of hz, fun _ => ⟨w.heap.size, 0, rfl, fun i hi => ?_⟩⟩
  have : (w.alloc (.cells (bv zs).toArray 5 fr)).cell? ⟨w.heap.size, 0 + i, none⟩ = (bv zs)[i]? := by
    rw [Nat.zero_add]
    simp [World.cell?, World.alloc, -World.alloc_eq]
  rw [this]
  simp [bv, List.getD, List.getElem?_eq_getElem hi]

theorem le4_arr (X : Nat) (hX : X < 4294967296) : #[Value.int IntKind.u8 ((X : Int) % 256), Value.int IntKind.u8 ((X : Int) / 256 % 256), Value.int IntKind.u8 ((X : Int) / 65536 % 256), Value.int IntKind.u8 ((X : Int) / 16777216)] = (bv (le4 X 4)).toArray := by
  have : le4 X 4 = [(X : Int) % 256, (X : Int) / 256 % 256, (X : Int) / 65536 % 256, (X : Int) / 16777216] := by
    simp only [le4, List.range, List.range.loop, List.map]
    simp only [show (2 : Nat) ^ (8 * 0) = 1 from rfl, show (2 : Nat) ^ (8 * 1) = 256 from rfl, show (2 : Nat) ^ (8 * 2) = 65536 from rfl, show (2 : Nat) ^ (8 * 3) = 16777216 from rfl]
    simp
    omega
  rw [this]
  rfl

/-- Bytes of a constant text. -/
theorem conv_const (w : World) (zs : List Int) (hz : ByteL zs) (arr : Array Value) (ha : arr = (bv zs).toArray) (L : Nat) (hL : zs.length = L) :
    ∃ w', (convert 35 35 (.slice (some ⟨w.heap.size, 0, none⟩) L L)).run Try.prog (w.alloc (.cells arr 5)) = .ok (.slice (some ⟨w.heap.size, 0, none⟩) L L) w' ∧
      Hid (Below w.heap.size w w') ∧ Hid (Bs w' (some ⟨w.heap.size, 0, none⟩) L L zs) :=
  ⟨_, Go.Lib.run_convert_bytes_const (P := Try.prog) w 35 5 arr L L Try.underlying35 Try.underlying5, hide ((Below.refl _ w).alloc (Nat.le_refl _) _), hide (bs_newL w zs hz arr ha L hL _)⟩

theorem open_seal (b off len cap : Nat) (zs : List Int) (w : World) (hz : ByteL zs) (hn : len = zs.length + 4) (hm : len ≤ 70368744177664) (h : Bs w (some ⟨b, off, none⟩) len cap (sl zs)) :
    Calls Try.prog 70 #[.slice (some ⟨b, off, none⟩) len cap] w fun e w' => ∃ v, e = .returned (.tuple #[v, .int .i64 0]) ∧ Own w' w.heap.size v zs ∧ Below w.heap.size w w' := by
  refine (open_long b off len cap (sl zs) w zs.length hn hm h).mono ?_
  rintro e w1 ⟨hb, ⟨_, v, he, ho⟩ | ⟨hg, _⟩⟩
  · refine ⟨v, he, ?_, hb⟩
    have : (sl zs).take zs.length = zs := by unfold sl; rw [List.take_left]
    rwa [this] at ho
  · exact absurd (good_sl zs hz) hg

end Go.Proofs.Ytgopcaemgcnapaa.Clep
