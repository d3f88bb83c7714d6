/- What state's row does when an item is put: the list is made once, with room, when the first item comes; one item more. Conditions: at most 2^40 items. -/
import Derived.Test.YtkkcchklefcljaaSCount
import Derived.Test.YtkkcchklefcljaaSOnce
import Derived.Laws.MakeOwn
namespace Go.Proofs.Ytkkcchklefcljaa.Clep
open Go.RowKit
set_option linter.unusedVariables false
set_option maxRecDepth 10000

set_option maxHeartbeats 400000 in
theorem room_any (P0 P1 : Nat) (fv : Value) (ao : Option Addr) (len cap : Nat) (ls : List (List It)) (p : It → Bool) (w : World) (h0 : w.cell? ⟨P0, 0, none⟩ = some fv) (h1 : w.cell? ⟨P1, 0, none⟩ = some (.slice ao len cap))
    (hf : Wn w fv p) (h : Lss w ao len ls) (ht : ls.flatten.length ≤ 1099511627776) (hl : len ≤ 1000) :
    Calls Try.prog 52 #[.pointer (some ⟨P0, 0, none⟩), .pointer (some ⟨P1, 0, none⟩)] w fun e w' => ∃ n : Nat, e = .returned (.int .i64 n) ∧ n ≤ 1099511627776 ∧ Below w.heap.size w w' := by
  have hc := hide (count_any fv ao len cap ls p w hf h ht hl)
  obtain ⟨g, cb, rfl, -, -⟩ := hf
  clear h
  go_enter Try.func52, Try.ntmps52
  go_wp2_with (go_at_call 53; refine hc.out.mono ?_; rintro e w1 ⟨n, rfl, hn, hb⟩)
  go_ret
  exact ⟨n, rfl, hn, hb⟩

/-- A row of package state in block R: its room, whether it was made, its lock, its items. -/
def Rw (w : World) (R P0 P1 : Nat) (d : Int) (v : Value) : Prop :=
  w.cell? ⟨R, 0, none⟩ = some (.func (.func 52) #[] #[.pointer (some ⟨P0, 0, none⟩), .pointer (some ⟨P1, 0, none⟩)]) ∧ w.cell? ⟨R, 1, none⟩ = some (.int .u32 d) ∧ w.cell? ⟨R, 2, none⟩ = some (.int .i32 0) ∧ w.cell? ⟨R, 4, none⟩ = some v ∧
    w.frozen? ⟨R, 1, none⟩ = false ∧ w.frozen? ⟨R, 2, none⟩ = false ∧ w.frozen? ⟨R, 4, none⟩ = false
theorem Rw.lt {w : World} {R P0 P1 : Nat} {d : Int} {v : Value} (h : Rw w R P0 P1 d v) : R < w.heap.size := World.block_lt_of_cell? w _ h.1
theorem Rw.grown {w w' : World} {R P0 P1 : Nat} {d : Int} {v : Value} {row : Option Nat} (h : Rw w R P0 P1 d v) (hg : w.grownBy w' row) (hne : some R ≠ row) : Rw w' R P0 P1 d v := by
  have hb := hg.block R h.lt hne
  obtain ⟨h0, h1, h2, h3, f1, f2, f3⟩ := h
  exact ⟨gb_cell hg _ h0 hne, gb_cell hg _ h1 hne, gb_cell hg _ h2 hne, gb_cell hg _ h3 hne, (World.frozen?_of_block (a := ⟨R, 1, none⟩) (w := w) hb).trans f1, (World.frozen?_of_block (a := ⟨R, 2, none⟩) (w := w) hb).trans f2, (World.frozen?_of_block (a := ⟨R, 4, none⟩) (w := w) hb).trans f3⟩
theorem Rw.keep {w w' : World} {R P0 P1 : Nat} {d : Int} {v : Value} (h : Rw w R P0 P1 d v) (hb : Below w.heap.size w w') : Rw w' R P0 P1 d v := h.grown (gb_below hb none) (by simp)
theorem Rw.set4 {w : World} {R P0 P1 : Nat} {d : Int} {v : Value} (h : Rw w R P0 P1 d v) (u : Value) : Rw (w.setCell ⟨R, 4, none⟩ u) R P0 P1 d u := by
  obtain ⟨h0, h1, h2, h3, f1, f2, f3⟩ := h
  refine ⟨?_, ?_, ?_, ?_, by simpa using f1, by simpa using f2, by simpa using f3⟩
  · rw [World.cell?_setCell_other (h := by simp)]; exact h0
  · rw [World.cell?_setCell_other (h := by simp)]; exact h1
  · rw [World.cell?_setCell_other (h := by simp)]; exact h2
  · rw [World.cell?_setCell_same (h := h3)]

set_option maxHeartbeats 1000000 in
theorem put1_any (q R P0 P1 : Nat) (fv : Value) (ao : Option Addr) (len cap : Nat) (ls : List (List It)) (p : It → Bool) (v0 : Value) (w : World)
    (hq : w.cell? ⟨q, 0, none⟩ = some (.pointer (some ⟨R, 0, none⟩))) (hr : w.cell? ⟨R, 0, none⟩ = some (.func (.func 52) #[] #[.pointer (some ⟨P0, 0, none⟩), .pointer (some ⟨P1, 0, none⟩)])) (h4 : w.cell? ⟨R, 4, none⟩ = some v0) (f4 : w.frozen? ⟨R, 4, none⟩ = false)
    (h0 : w.cell? ⟨P0, 0, none⟩ = some fv) (h1 : w.cell? ⟨P1, 0, none⟩ = some (.slice ao len cap)) (hf : Wn w fv p) (h : Lss w ao len ls) (ht : ls.flatten.length ≤ 1099511627776) (hl : len ≤ 1000) :
    Calls Try.prog 60 #[.pointer (some ⟨q, 0, none⟩)] w fun e w' => e = .returned (.tuple #[]) ∧ ∃ w4 v', Below w.heap.size w w4 ∧ OwnI w4 w.heap.size v' [] ∧ w' = w4.setCell ⟨R, 4, none⟩ v' := by
  have hqs := World.block_lt_of_cell? w _ hq
  have hrs := World.block_lt_of_cell? w _ hr
  have hroom : Hid (∀ W, Below w.heap.size w W → Calls Try.prog 52 #[.pointer (some ⟨P0, 0, none⟩), .pointer (some ⟨P1, 0, none⟩)] W fun e w' => ∃ n : Nat, e = .returned (.int .i64 n) ∧ n ≤ 1099511627776 ∧ Below W.heap.size W w') := hide fun W hW =>
    room_any P0 P1 fv ao len cap ls p W ((hW.cell (p := ⟨P0, 0, none⟩) (World.block_lt_of_cell? w _ h0)).trans h0) ((hW.cell (p := ⟨P1, 0, none⟩) (World.block_lt_of_cell? w _ h1)).trans h1) (hf.below hW) (h.below hW) ht hl
  have HC : Hid (∀ W, Below w.heap.size w W → W.cell? ⟨R, 4, none⟩ = some v0 ∧ W.frozen? ⟨R, 4, none⟩ = false) := hide fun W hW => ⟨(hW.cell (p := ⟨R, 4, none⟩) hrs).trans h4, (hW.frozen (p := ⟨R, 4, none⟩) hrs).trans f4⟩
  have HK : Hid (∀ W, Below w.heap.size w W → (W.cell? ⟨q, 0, none⟩ = some (.pointer (some ⟨R, 0, none⟩)) ∧ W.cell? ⟨R, 0, none⟩ = some (.func (.func 52) #[] #[.pointer (some ⟨P0, 0, none⟩), .pointer (some ⟨P1, 0, none⟩)]) ∧ W.frozen? ⟨R, 4, none⟩ = false)) := hide fun W hW =>
    ⟨(hW.cell (p := ⟨q, 0, none⟩) hqs).trans hq, (hW.cell (p := ⟨R, 0, none⟩) hrs).trans hr, (hW.frozen (p := ⟨R, 4, none⟩) hrs).trans f4⟩
  have HS : Hid (∀ W u, Below w.heap.size w W → ((W.setCell ⟨R, 4, none⟩ u).cell? ⟨q, 0, none⟩ = some (.pointer (some ⟨R, 0, none⟩)) ∧ (W.setCell ⟨R, 4, none⟩ u).cell? ⟨R, 0, none⟩ = some (.func (.func 52) #[] #[.pointer (some ⟨P0, 0, none⟩), .pointer (some ⟨P1, 0, none⟩)]) ∧ (W.setCell ⟨R, 4, none⟩ u).frozen? ⟨R, 4, none⟩ = false)) := hide fun W u hW => by
    obtain ⟨a, b, c⟩ := HK.out W hW
    exact ⟨by rw [World.cell?_setCell_other (h := by simp)]; exact a, by rw [World.cell?_setCell_other (h := by simp)]; exact b, by simpa using c⟩
  obtain ⟨i0, hi, hz0, hz1, hz2⟩ := info_parts infoI
  have HM : Hid (∀ (W : World) (n : Nat), n ≤ 1099511627776 → Below w.heap.size w W → ∃ w', (Instr.makeSlice 25 (.int .i64 0) (.int .i64 (n : Int))).run Try.prog W = .ok (.slice (some ⟨W.heap.size, 0, none⟩) 0 n) w' ∧ OwnI w' w.heap.size (.slice (some ⟨W.heap.size, 0, none⟩) 0 n) [] ∧ Below w.heap.size w w') := hide fun W n hn hW => by
    obtain ⟨w', h1, h2, h3⟩ := run_make_own (P := Try.prog) W w.heap.size 25 36 i0 _ 5 Try.underlying25 hi hz0 hz1 .i64 .i64 n (by rw [hz2]; omega) (by unfold maxLen; omega) hW.size
    exact ⟨w', h1, h2, hW.grown h3 hW.size (by simp)⟩
  clear hq hr h4 f4 h0 h1 hf h hi
  have hb0 : Below w.heap.size w w.drew := (Below.refl _ _).drew
  go_enter Try.func60, Try.ntmps60
  go_wp2_with fail
  go_region_held_law (fun W => W.cell? ⟨q, 0, none⟩ = some (.pointer (some ⟨R, 0, none⟩)) ∧ W.cell? ⟨R, 0, none⟩ = some (.func (.func 52) #[] #[.pointer (some ⟨P0, 0, none⟩), .pointer (some ⟨P1, 0, none⟩)]) ∧ W.frozen? ⟨R, 4, none⟩ = false)
    (first
    | exact HK.out _ (by assumption)
    | exact HK.out _ (Below.drew (by assumption))
    | exact HS.out _ _ (by assumption)
    | exact HS.out _ _ (Below.drew (by assumption)))
    (first
    | (go_at_call 52; refine (hroom.out _ (by assumption)).mono ?_; rintro e w3 ⟨n, rfl, hn, hb⟩; have hb3 : Below w.heap.size w w3 := bmore hb0 hb; obtain ⟨w4, hmk, ho, hb4⟩ := HM.out w3 n hn hb3; obtain ⟨k4, z4⟩ := HC.out w4 hb4))
  all_goals
    go_end0
    exact ⟨rfl, w4, _, hb4, ho, rfl⟩

end Go.Proofs.Ytkkcchklefcljaa.Clep
