/- What the tally of package item does when called: it counts items, and those that may be; whether both numbers are one. Conditions: its two cells hold what is said. -/
import Derived.Test.YtodhljiboakjnaaGreatZc
import Derived.Test.YtodhljiboakjnaaGreatZb
import Derived.Maps.AppendAt
namespace Go.Proofs.YtodhljiboakjnaaGreat.Clep
open Go.RowKit
set_option linter.unusedVariables false
set_option maxRecDepth 10000

/-- The block R holds the numbers a and f, and may be written. -/
def Ta (w : World) (R : Nat) (a f : Int) : Prop := w.cell? ⟨R, 0, none⟩ = some (.int .i64 a) ∧ w.cell? ⟨R, 1, none⟩ = some (.int .i64 f) ∧ w.frozen? ⟨R, 0, none⟩ = false ∧ w.frozen? ⟨R, 1, none⟩ = false
theorem Ta.lt {w : World} {R : Nat} {a f : Int} (h : Ta w R a f) : R < w.heap.size := World.block_lt_of_cell? w _ h.1
theorem Ta.grown {w w' : World} {R : Nat} {a f : Int} {row : Option Nat} (h : Ta w R a f) (hg : w.grownBy w' row) (hne : some R ≠ row) : Ta w' R a f := by
  have hb := hg.block R h.lt hne
  exact ⟨gb_cell hg _ h.1 hne, gb_cell hg _ h.2.1 hne, (World.frozen?_of_block (a := ⟨R, 0, none⟩) (w := w) hb).trans h.2.2.1, (World.frozen?_of_block (a := ⟨R, 1, none⟩) (w := w) hb).trans h.2.2.2⟩
theorem Ta.keep {w w' : World} {R : Nat} {a f : Int} (h : Ta w R a f) (hb : Below w.heap.size w w') : Ta w' R a f := h.grown (gb_below hb none) (by simp)
theorem Ta.set0 {w : World} {R : Nat} {a f : Int} (h : Ta w R a f) (n : Int) : Ta (w.setCell ⟨R, 0, none⟩ (.int .i64 n)) R n f := by
  obtain ⟨h0, h1, f0, f1⟩ := h
  refine ⟨?_, ?_, by simpa using f0, by simpa using f1⟩
  · rw [World.cell?_setCell_same (h := h0)]
  · rw [World.cell?_setCell_other (h := by simp)]; exact h1
theorem Ta.set1 {w : World} {R : Nat} {a f : Int} (h : Ta w R a f) (n : Int) : Ta (w.setCell ⟨R, 1, none⟩ (.int .i64 n)) R a n := by
  obtain ⟨h0, h1, f0, f1⟩ := h
  refine ⟨?_, ?_, by simpa using f0, by simpa using f1⟩
  · rw [World.cell?_setCell_other (h := by simp)]; exact h0
  · rw [World.cell?_setCell_same (h := h1)]

set_option maxHeartbeats 400000 in
theorem tsum_any (R : Nat) (a f : Int) (w : World) (h : Ta w R a f) :
    Calls Tryz.prog 110 #[.pointer (some ⟨R, 0, none⟩)] w fun e w' => e = .returned (.int .i64 a) ∧ w' = w := by
  have hld := run_call_load (P := Tryz.prog) Tryz.func113 (by kernel_rfl) (by kernel_rfl) (by kernel_rfl) .i64 (by kernel_rfl) h.1
  clear h
  go_enter Tryz.func110, Tryz.ntmps110
  go_wp2
  go_ret
  exact ⟨rfl, rfl⟩
theorem load_any (R i : Nat) (a : Int) (w : World) (h : w.cell? ⟨R, i, none⟩ = some (.int .i64 a)) :
    Calls Tryz.prog 97 #[.pointer (some ⟨R, i, none⟩)] w fun e w' => e = .returned (.int .i64 a) ∧ w' = w := by
  have hld := run_call_load (P := Tryz.prog) Tryz.func113 (by kernel_rfl) (by kernel_rfl) (by kernel_rfl) .i64 (by kernel_rfl) h
  go_enter Tryz.func97, Tryz.ntmps97
  go_wp2
  go_ret
  exact ⟨rfl, rfl⟩

set_option maxHeartbeats 400000 in
theorem allfine_any (R : Nat) (a f : Int) (w : World) (h : Ta w R a f) :
    Calls Tryz.prog 80 #[.pointer (some ⟨R, 0, none⟩)] w fun e w' => e = .returned (.bool (f == a)) ∧ Below w.heap.size w w' := by
  have c0 : Hid (∀ p : Kp w, Calls Tryz.prog 97 #[.pointer (some ⟨R, 0, none⟩)] p.W fun e w'' => e = .returned (.int .i64 a) ∧ ∃ q : Kp w, w'' = q.W) := hide fun p => kp_same (load_any R 0 a _ (h.keep p.h).1)
  have c1 : Hid (∀ p : Kp w, Calls Tryz.prog 97 #[.pointer (some ⟨R, 1, none⟩)] p.W fun e w'' => e = .returned (.int .i64 f) ∧ ∃ q : Kp w, w'' = q.W) := hide fun p => kp_same (load_any R 1 f _ (h.keep p.h).2.1)
  have hne : Nonempty (Kp w) := ⟨⟨w, Below.refl _ _⟩⟩
  clear h
  go_enter Tryz.func80, Tryz.ntmps80
  go_wp2_with fail
  refine wp_region_kept (by kernel_rfl) (by kernel_rfl) ?_
  repeat (first
    | go_big_quiet_step (first | (go_at_call 97; exact c0.out _) | (go_at_call 97; exact c1.out _))
    | fail)
  refine wpQuiet_nil ?_
  intro w1 hw'
  have HB : Hid (Below w.heap.size w w1) := by
    obtain ⟨⟨w3', hb3⟩, hw''⟩ := hw'
    rw [hw'']; exact hb3
  clear hw' c0 c1 hne
  go_wp2
  go_ret
  exact ⟨rfl, HB.out⟩

theorem add_any (R i : Nat) (a y : Int) (w : World) (h : w.cell? ⟨R, i, none⟩ = some (.int .i64 a)) (hf : w.frozen? ⟨R, i, none⟩ = false) (h0 : 0 ≤ a + y) (h1 : a + y ≤ 9223372036854775807) :
    Calls Tryz.prog 96 #[.pointer (some ⟨R, i, none⟩), .int .i64 y] w fun e w' => e = .returned (.int .i64 (a + y)) ∧ w' = w.setCell ⟨R, i, none⟩ (.int .i64 (a + y)) := by
  have hadd := run_call_add (P := Tryz.prog) Tryz.func112 (by kernel_rfl) (by kernel_rfl) (by kernel_rfl) .i64 (by kernel_rfl) (y := y) (s := a + y) h hf (by
    simp [go_sem, IntKind.wrap, IntKind.bits, IntKind.signed]
    omega)
  go_enter Tryz.func96, Tryz.ntmps96
  go_wp2
  go_ret
  exact ⟨rfl, rfl⟩

set_option maxHeartbeats 800000 in
theorem count_core (R : Nat) (a f S K T V X : Int) (o : Bool) (ho : Hid (okI S K T V X = o)) (w : World) (h : Ta w R a f) (ha : 0 ≤ a ∧ a ≤ 100000) (hf : 0 ≤ f ∧ f ≤ 100000) :
    Calls Tryz.prog 79 #[.pointer (some ⟨R, 0, none⟩), .agg #[.int .i64 S, .int .i64 K, .int .u64 T, .int .u64 V, .int .i64 X]] w fun e w' =>
      e = .returned (.tuple #[]) ∧ Ta w' R (a + 1) (f + if o then 1 else 0) ∧ w.grownBy w' (some R) := by
  have hR := h.lt
  have h1 := h.keep ((Below.refl _ w).alloc (Nat.le_refl _) (Obj.cells #[Value.int IntKind.i64 S, Value.int IntKind.i64 K, Value.int IntKind.u64 T, Value.int IntKind.u64 V, Value.int IntKind.i64 X] 25))
  have T0 := hide h1
  have T1 := hide (h1.set0 (a + 1))
  have G1 := hide ((gb_below ((Below.refl _ w).alloc (Nat.le_refl _) (Obj.cells #[Value.int IntKind.i64 S, Value.int IntKind.i64 K, Value.int IntKind.u64 T, Value.int IntKind.u64 V, Value.int IntKind.i64 X] 25)) (some R)).trans (gb_set _ ⟨R, 0, none⟩ (.int .i64 (a + 1))))
  have V1 := hide ((vi_new w S K T V X).grown (gb_set _ ⟨R, 0, none⟩ (.int .i64 (a + 1))) (by simp; omega))
  clear h h1
  go_enter Tryz.func79, Tryz.ntmps79
  go_wp2_with fail
  refine (add_any R 0 a 1 _ T0.out.1 T0.out.2.2.1 (by omega) (by omega)).mono ?_
  rintro e w1 ⟨rfl, hw1⟩
  rw [← hw1] at T1 G1 V1
  clear hw1 T0
  have V2 := V1.out
  unfold Vi at V2
  obtain ⟨v0, v1, v2, v3, v4⟩ := V2
  go_wp2_with fail
  refine (ok_any S K T V X _).mono ?_
  rw [ho.out]
  rintro e w2 ⟨rfl, hb2⟩
  have T2 := hide (T1.out.keep hb2)
  have G2 := hide (G1.out.trans (gb_below hb2 (some R)))
  clear hb2 v0 v1 v2 v3 v4 V1 T1 G1
  clear ho
  cases o with
  | true =>
    go_wp2_with fail
    refine (add_any R 1 f 1 _ T2.out.2.1 T2.out.2.2.2 (by omega) (by omega)).mono ?_
    rintro e w3 ⟨rfl, rfl⟩
    go_wp2
    go_end0
    exact ⟨rfl, by simpa using T2.out.set1 (f + 1), G2.out.trans (gb_set _ ⟨R, 1, none⟩ (.int .i64 (f + 1)))⟩
  | false =>
    go_wp2
    go_end0
    exact ⟨rfl, by simpa using T2.out, G2.out⟩
theorem count_any (R : Nat) (a f S K T V X : Int) (w : World) (h : Ta w R a f) (ha : 0 ≤ a ∧ a ≤ 100000) (hf : 0 ≤ f ∧ f ≤ 100000) :
    Calls Tryz.prog 79 #[.pointer (some ⟨R, 0, none⟩), .agg #[.int .i64 S, .int .i64 K, .int .u64 T, .int .u64 V, .int .i64 X]] w fun e w' =>
      e = .returned (.tuple #[]) ∧ Ta w' R (a + 1) (f + if okI S K T V X then 1 else 0) ∧ w.grownBy w' (some R) := count_core R a f S K T V X _ (hide rfl) w h ha hf

end Go.Proofs.YtodhljiboakjnaaGreat.Clep
