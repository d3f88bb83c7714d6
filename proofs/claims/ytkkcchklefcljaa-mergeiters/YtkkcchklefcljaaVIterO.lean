/- What the function in Iter.open does when called: the rows are made one, and let go. Conditions: at most a thousand rows, a hundred thousand items. -/
import Derived.Test.YtkkcchklefcljaaVIter
import Derived.Deep.RegionLaw
import Derived.BigRegion
namespace Go.Proofs.Ytkkcchklefcljaa.Clep
open Go.RowKit
set_option linter.unusedVariables false

set_option maxRecDepth 100000 in
set_option maxHeartbeats 2000000 in
theorem open1_any (q M : Nat) (a : Option Addr) (n c : Nat) (ys : List Sl) (w : World) (hq : w.cell? ⟨q, 0, none⟩ = some (.pointer (some ⟨M, 0, none⟩))) (hb : Blk w M (itrV (.slice a n c) 0 1 (.slice none 0 0) 0) 64)
    (hR : Rws w a n c ys) (hc : c ≤ 9223372036854775807) (hn : n ≤ 1000) (hs : sumL ys ≤ 100000) :
    Calls Try.prog 50 #[.pointer (some ⟨q, 0, none⟩)] w fun e w' => e = .returned (.tuple #[]) ∧ ∃ w4 L a' n' c', Below w.heap.size w w4 ∧ Rs w4 a' n' c' (ys.map Sl.l) L ∧ OwnI w4 w.heap.size (.slice a' n' c') L ∧ Blk w' M (itrV (.slice none 0 0) 0 1 (.slice a' n' c') 0) 64 ∧ Ch (fun b => b = M) w4 w' := by
  have hqs := World.block_lt_of_cell? w _ hq
  have hne : q ≠ M := fun e => by
    rw [e] at hq
    have := hb.cell (o := 0) rfl
    rw [hq] at this
    cases this
  have CR := hide (fun W (hW : Below w.heap.size w W) => mrows_any n a n c ys W (Nat.le_refl _) (hR.below hW (Nat.le_refl _)) hc hn hs)
  have HQ := hide (fun W (hW : Below w.heap.size w W) => (hW.cell (p := ⟨q, 0, none⟩) hqs).trans hq)
  have HQS : Hid (∀ (W : World) (o : Nat) (u : Value), W.cell? ⟨q, 0, none⟩ = some (.pointer (some ⟨M, 0, none⟩)) → (W.setCell ⟨M, o, none⟩ u).cell? ⟨q, 0, none⟩ = some (.pointer (some ⟨M, 0, none⟩))) := hide fun W o u h => (World.cell?_setCell_other _ ⟨M, o, none⟩ ⟨q, 0, none⟩ _ (by intro e; injection e with e1; exact hne e1.symm)).trans h
  have HB := hide (fun W (hW : Below w.heap.size w W) => hb.keep hW)
  have r0 : w.cell? ⟨M, 0, none⟩ = some (.slice a n c) := hb.cell rfl
  have hb0 : Below w.heap.size w w.drew := (Below.refl _ _).drew
  have hb00 : Below w.heap.size w w := Below.refl _ _
  have q0 := HQ.out _ hb0
  clear hq hb hR hqs
  go_enter Try.func50, Try.ntmps50
  go_wp2_with fail
  go_region_with (first
    | (go_at_call 10; refine (CR.out _ hb0).mono ?_; rintro e w4 ⟨L4, a4, n4, c4, rfl, rs4, hb4, ho4⟩; have k4 := bmore hb0 hb4; have K4 := hide (HB.out w4 k4); have z0 := (HB.out w4 k4).cell (o := 0) rfl; have z4 := (HB.out w4 k4).cell (o := 4) rfl; have f0 := (HB.out w4 k4).free 0; have f4 := (HB.out w4 k4).free 4; have y0 := HQ.out w4 k4; have y1 := fun o u => HQS.out w4 o u y0))
  all_goals
    have HA := hide (show ∃ w9 L a' n' c', Below w.heap.size w w9 ∧ Rs w9 a' n' c' (ys.map Sl.l) L ∧ OwnI w9 w.heap.size (.slice a' n' c') L ∧ Blk ((w4.setCell ⟨M, 4, none⟩ (.slice a4 n4 c4)).setCell ⟨M, 0, none⟩ (.slice none 0 0)) M (itrV (.slice none 0 0) 0 1 (.slice a' n' c') 0) 64 ∧ Ch (fun b => b = M) w9 ((w4.setCell ⟨M, 4, none⟩ (.slice a4 n4 c4)).setCell ⟨M, 0, none⟩ (.slice none 0 0)) from
      ⟨w4, L4, a4, n4, c4, k4, rs4, ho4, (K4.out.set 4 (.slice a4 n4 c4)).set 0 (.slice none 0 0), Ch.trans (Ch.set w4 ⟨M, 4, none⟩ _ rfl) (Ch.set _ ⟨M, 0, none⟩ _ rfl)⟩)
    clear rs4 ho4 K4 y1 HQS
    go_end0
    exact ⟨rfl, HA.out⟩

end Go.Proofs.Ytkkcchklefcljaa.Clep
