/- What the function that open hands to its Once does when called. Conditions: the index lies in memory as said. -/
import Derived.Test.YtodhljiboakjnaaGreatQd
import Derived.Deep.RegionWith
import Derived.Laws.EntriesVeiled
namespace Go.Proofs.YtodhljiboakjnaaGreat.Clep
open Go.RowKit
set_option linter.unusedVariables false
set_option maxRecDepth 10000

set_option maxHeartbeats 1000000 in
theorem open1_any (q M : Nat) (a : Option Addr) (n c : Nat) (l : List It) (v0 : Value) (w : World)
    (hq : w.cell? ⟨q, 0, none⟩ = some (.pointer (some ⟨M, 2, none⟩))) (hr : w.cell? ⟨M, 2, none⟩ = some (.slice a n c)) (h6 : w.cell? ⟨M, 6, none⟩ = some v0) (f6 : w.frozen? ⟨M, 6, none⟩ = false) (f2 : w.frozen? ⟨M, 2, none⟩ = false) (hne : q ≠ M)
    (hc : c ≤ 9223372036854775807) (h : Bs w a n c (tI l)) (hT : TOk l) :
    Calls Tryz.prog 66 #[.pointer (some ⟨q, 0, none⟩)] w fun e w' => e = .returned (.tuple #[]) ∧ ∃ w4 v', Below w.heap.size w w4 ∧ OwnM w4 w.heap.size v' (mks l (nb l)) ∧ w' = (w4.setCell ⟨M, 6, none⟩ v').setCell ⟨M, 2, none⟩ (.slice none 0 0) := by
  have hqs := World.block_lt_of_cell? w _ hq
  have hrs := World.block_lt_of_cell? w _ hr
  simp only at hqs hrs
  have hdc := hide (decode_any a n c l w.drew (h.below (Below.refl _ _).drew (Nat.le_refl _)) hT hc)
  have HK : Hid (∀ W, Below w.heap.size w W → (W.cell? ⟨q, 0, none⟩ = some (.pointer (some ⟨M, 2, none⟩)) ∧ W.cell? ⟨M, 2, none⟩ = some (.slice a n c) ∧ W.cell? ⟨M, 6, none⟩ = some v0 ∧ W.frozen? ⟨M, 6, none⟩ = false ∧ W.frozen? ⟨M, 2, none⟩ = false)) := hide fun W hW =>
    ⟨(hW.cell (p := ⟨q, 0, none⟩) hqs).trans hq, (hW.cell (p := ⟨M, 2, none⟩) hrs).trans hr, (hW.cell (p := ⟨M, 6, none⟩) hrs).trans h6, (hW.frozen (p := ⟨M, 6, none⟩) hrs).trans f6, (hW.frozen (p := ⟨M, 2, none⟩) hrs).trans f2⟩
  clear h hqs hrs
  go_enter Tryz.func66, Tryz.ntmps66
  go_wp2_with fail
  go_region_with (go_at_call 67; refine hdc.out.mono ?_; rintro e w4 ⟨v, rfl, ho, hb4⟩; obtain ⟨a4, c4, rfl⟩ := ownM_shape ho; obtain ⟨g1, g2, g3, g4, g5⟩ := HK.out w4 (((Below.refl _ _).drew).trans hb4))
  all_goals
    go_end0
    exact ⟨rfl, w4, _, ((Below.refl _ _).drew).trans hb4, ho, rfl⟩
end Go.Proofs.YtodhljiboakjnaaGreat.Clep
