/- What the reader of package item does when called for an item: for whatever is left. Conditions: its two cells hold what is said. -/
import Derived.Test.YtfmofkkjnepbcaaIReader
import Derived.Maps.Range
namespace Go.Proofs.Ytfmofkkjnepbcaa.Clep
open Go.RowKit
set_option linter.unusedVariables false

/-- A variable that holds an item, and may be written. -/
def Vx (w : World) (R : Nat) (S K T V X : Int) : Prop := Vi w R 0 S K T V X ∧ Vf w R 0
theorem Vx.lt {w : World} {R : Nat} {S K T V X : Int} (h : Vx w R S K T V X) : R < w.heap.size := h.1.lt
theorem Vx.grown {w w' : World} {R : Nat} {S K T V X : Int} {row : Option Nat} (h : Vx w R S K T V X) (hg : w.grownBy w' row) (hne : some R ≠ row) : Vx w' R S K T V X := by
  have hb := hg.block R h.lt hne
  refine ⟨h.1.grown hg hne, ?_⟩
  obtain ⟨h0, h1, h2, h3, h4⟩ := h.2
  exact ⟨(World.frozen?_of_block (a := ⟨R, 0, none⟩) (w := w) hb).trans h0, (World.frozen?_of_block (a := ⟨R, 0 + 1, none⟩) (w := w) hb).trans h1, (World.frozen?_of_block (a := ⟨R, 0 + 2, none⟩) (w := w) hb).trans h2, (World.frozen?_of_block (a := ⟨R, 0 + 3, none⟩) (w := w) hb).trans h3, (World.frozen?_of_block (a := ⟨R, 0 + 4, none⟩) (w := w) hb).trans h4⟩
theorem vx_new (w : World) (S K T V X : Int) : Vx (w.alloc (Obj.cells #[Value.int IntKind.i64 S, Value.int IntKind.i64 K, Value.int IntKind.u64 T, Value.int IntKind.u64 V, Value.int IntKind.i64 X] 24)) w.heap.size S K T V X := ⟨vi_new w S K T V X, vf_new w S K T V X⟩
theorem Vx.set0 {w : World} {R : Nat} {S K T V X : Int} (h : Vx w R S K T V X) (n : Int) : Vx (w.setCell ⟨R, 0, none⟩ (.int .i64 n)) R n K T V X := by
  obtain ⟨⟨h0, h1, h2, h3, h4⟩, f0, f1, f2, f3, f4⟩ := h
  simp only [Nat.zero_add] at h1 h2 h3 h4 f1 f2 f3 f4
  refine ⟨⟨?_, ?_, ?_, ?_, ?_⟩, by simpa using f0, by simpa using f1, by simpa using f2, by simpa using f3, by simpa using f4⟩
  · rw [World.cell?_setCell_same (h := h0)]
  · rw [World.cell?_setCell_other (h := by simp)]; exact h1
  · rw [World.cell?_setCell_other (h := by simp)]; exact h2
  · rw [World.cell?_setCell_other (h := by simp)]; exact h3
  · rw [World.cell?_setCell_other (h := by simp)]; exact h4
theorem Vx.set1 {w : World} {R : Nat} {S K T V X : Int} (h : Vx w R S K T V X) (n : Int) : Vx (w.setCell ⟨R, 1, none⟩ (.int .i64 n)) R S n T V X := by
  obtain ⟨⟨h0, h1, h2, h3, h4⟩, f0, f1, f2, f3, f4⟩ := h
  simp only [Nat.zero_add] at h1 h2 h3 h4 f1 f2 f3 f4
  refine ⟨⟨?_, ?_, ?_, ?_, ?_⟩, by simpa using f0, by simpa using f1, by simpa using f2, by simpa using f3, by simpa using f4⟩
  · rw [World.cell?_setCell_other (h := by simp)]; exact h0
  · rw [World.cell?_setCell_same (h := h1)]
  · rw [World.cell?_setCell_other (h := by simp)]; exact h2
  · rw [World.cell?_setCell_other (h := by simp)]; exact h3
  · rw [World.cell?_setCell_other (h := by simp)]; exact h4
theorem Vx.set2 {w : World} {R : Nat} {S K T V X : Int} (h : Vx w R S K T V X) (n : Int) : Vx (w.setCell ⟨R, 2, none⟩ (.int .u64 n)) R S K n V X := by
  obtain ⟨⟨h0, h1, h2, h3, h4⟩, f0, f1, f2, f3, f4⟩ := h
  simp only [Nat.zero_add] at h1 h2 h3 h4 f1 f2 f3 f4
  refine ⟨⟨?_, ?_, ?_, ?_, ?_⟩, by simpa using f0, by simpa using f1, by simpa using f2, by simpa using f3, by simpa using f4⟩
  · rw [World.cell?_setCell_other (h := by simp)]; exact h0
  · rw [World.cell?_setCell_other (h := by simp)]; exact h1
  · rw [World.cell?_setCell_same (h := h2)]
  · rw [World.cell?_setCell_other (h := by simp)]; exact h3
  · rw [World.cell?_setCell_other (h := by simp)]; exact h4
theorem Vx.set3 {w : World} {R : Nat} {S K T V X : Int} (h : Vx w R S K T V X) (n : Int) : Vx (w.setCell ⟨R, 3, none⟩ (.int .u64 n)) R S K T n X := by
  obtain ⟨⟨h0, h1, h2, h3, h4⟩, f0, f1, f2, f3, f4⟩ := h
  simp only [Nat.zero_add] at h1 h2 h3 h4 f1 f2 f3 f4
  refine ⟨⟨?_, ?_, ?_, ?_, ?_⟩, by simpa using f0, by simpa using f1, by simpa using f2, by simpa using f3, by simpa using f4⟩
  · rw [World.cell?_setCell_other (h := by simp)]; exact h0
  · rw [World.cell?_setCell_other (h := by simp)]; exact h1
  · rw [World.cell?_setCell_other (h := by simp)]; exact h2
  · rw [World.cell?_setCell_same (h := h3)]
  · rw [World.cell?_setCell_other (h := by simp)]; exact h4
theorem Vx.set4 {w : World} {R : Nat} {S K T V X : Int} (h : Vx w R S K T V X) (n : Int) : Vx (w.setCell ⟨R, 4, none⟩ (.int .i64 n)) R S K T V n := by
  obtain ⟨⟨h0, h1, h2, h3, h4⟩, f0, f1, f2, f3, f4⟩ := h
  simp only [Nat.zero_add] at h1 h2 h3 h4 f1 f2 f3 f4
  refine ⟨⟨?_, ?_, ?_, ?_, ?_⟩, by simpa using f0, by simpa using f1, by simpa using f2, by simpa using f3, by simpa using f4⟩
  · rw [World.cell?_setCell_other (h := by simp)]; exact h0
  · rw [World.cell?_setCell_other (h := by simp)]; exact h1
  · rw [World.cell?_setCell_other (h := by simp)]; exact h2
  · rw [World.cell?_setCell_other (h := by simp)]; exact h3
  · rw [World.cell?_setCell_same (h := h4)]

/-- What an item comes to. -/
def item1 (s : List Int × Int) : It × List Int × Int :=
  let a := one1 s; let b := one1 a.2; let c := num1 b.2; let d := num1 c.2; let e := num1 d.2
  (⟨a.1, b.1, c.1, d.1, usgn e.1⟩, e.2)
theorem re_range {w : World} {B R : Nat} {zs : List Int} {e : Int} (h : Re w B R zs e) : ∀ z ∈ zs, 0 ≤ z ∧ z < 256 := by
  obtain ⟨⟨_, _, _, _, hb, _, _⟩, _⟩ := h
  exact bs_range hb
theorem num1_range (s : List Int × Int) (h : ∀ z ∈ s.1, 0 ≤ z ∧ z < 256) : 0 ≤ (num1 s).1 ∧ (num1 s).1 ≤ 18446744073709551615 := by
  unfold num1
  split
  · simp
  · have := tk_facts s.1 0 0 (by omega) h (by omega) (by simp)
    exact ⟨this.1, this.2.1⟩

theorem vx_results {w : World} {R : Nat} {S K T V X : Int} (h : Vx w R S K T V X) (ts : Array Value) (h2 : ts.getD 2 undef = .pointer (some ⟨R, 0, none⟩)) :
    (results Try.f39 ts).run Try.prog w = .ok (.agg #[.int .i64 S, .int .i64 K, .int .u64 T, .int .u64 V, .int .i64 X]) w := by
  obtain ⟨⟨h0, h1, h3, h4, h5⟩, -⟩ := h
  simp only [Nat.zero_add] at h1 h3 h4 h5
  rw [Array.getD_eq_getD_getElem?] at h2
  simp [results, Try.results39, go_sem, h0, h1, h2, h3, h4, h5]

set_option maxHeartbeats 1000000 in
theorem ritem_core (B R : Nat) (zs : List Int) (e : Int) (w : World) (h : Re w B R zs e) (hB : B ≤ w.heap.size) (S K T V N : Int) (s1 s2 s3 s4 s5 : List Int) (e1 e2 e3 e4 e5 : Int)
    (p1 : Hid (one1 (zs, e) = (S, s1, e1))) (p2 : Hid (one1 (s1, e1) = (K, s2, e2))) (p3 : Hid (num1 (s2, e2) = (T, s3, e3))) (p4 : Hid (num1 (s3, e3) = (V, s4, e4))) (p5 : Hid (num1 (s4, e4) = (N, s5, e5))) :
    Calls Try.prog 39 #[.pointer (some ⟨R, 0, none⟩)] w fun en w' => en = .returned (.agg #[.int .i64 S, .int .i64 K, .int .u64 T, .int .u64 V, .int .i64 (usgn N)]) ∧ Re w' B R s5 e5 ∧ w.grownBy w' (some R) := by
  have hR := h.lt
  have W0 := ((Below.refl _ w).alloc (Nat.le_refl _) (Obj.cells #[Value.int IntKind.i64 0, Value.int IntKind.i64 0, Value.int IntKind.u64 0, Value.int IntKind.u64 0, Value.int IntKind.i64 0] 24)).alloc (by simp) (Obj.cells #[Value.int IntKind.i64 0, Value.int IntKind.i64 0, Value.int IntKind.u64 0, Value.int IntKind.u64 0, Value.int IntKind.i64 0] 24)
  have R0 := hide (h.keep W0)
  have A0 := hide ((vx_new w 0 0 0 0 0).grown (gb_below ((Below.refl _ _).alloc (Nat.le_refl _) (Obj.cells #[Value.int IntKind.i64 0, Value.int IntKind.i64 0, Value.int IntKind.u64 0, Value.int IntKind.u64 0, Value.int IntKind.i64 0] 24)) none) (by simp))
  have X0 := vx_new (w.alloc (Obj.cells #[Value.int IntKind.i64 0, Value.int IntKind.i64 0, Value.int IntKind.u64 0, Value.int IntKind.u64 0, Value.int IntKind.i64 0] 24)) 0 0 0 0 0
  rw [show (w.alloc (Obj.cells #[Value.int IntKind.i64 0, Value.int IntKind.i64 0, Value.int IntKind.u64 0, Value.int IntKind.u64 0, Value.int IntKind.i64 0] 24)).heap.size = w.heap.size + 1 from by simp] at X0
  have X0 := hide X0
  have G0 := hide (gb_below W0 (some R))
  have hn1 : Hid (some (w.heap.size) ≠ some R ∧ some (w.heap.size + 1) ≠ some R) := hide ⟨by simp; omega, by simp; omega⟩
  clear h W0
  go_enter Try.func39, Try.ntmps39
  go_wp2_with fail
  refine (one_any B R zs e _ R0.out).mono ?_
  rw [p1.out]
  rintro en w1 ⟨rfl, r, g⟩
  have Ra := hide r
  have Aa := hide (A0.out.grown g hn1.out.1)
  have Xa := hide (X0.out.grown g hn1.out.2)
  have Ga := hide (G0.out.trans g)
  clear r g R0 A0 X0 G0
  have q := Xa.out.1
  have f := Xa.out.2
  unfold Vi at q
  unfold Vf at f
  simp only [Nat.zero_add] at q f
  obtain ⟨q0, q1, q2, q3, q4⟩ := q
  obtain ⟨f0, f1, f2, f3, f4⟩ := f
  have X1 := hide (Xa.out.set0 S)
  have R1 := hide (Ra.out.grown (gb_set _ ⟨w.heap.size + 1, 0, none⟩ (.int .i64 S)) (by simp; omega) (by simp; omega))
  have A1 := hide (Aa.out.grown (gb_set _ ⟨w.heap.size + 1, 0, none⟩ (.int .i64 S)) (by simp))
  have G1 := hide (Ga.out.andThen (gb_set _ ⟨w.heap.size + 1, 0, none⟩ (.int .i64 S)) (by simp))
  go_wp2_with fail
  clear Xa Ra Aa Ga q0 q1 q2 q3 q4 f0 f1 f2 f3 f4
  refine (one_any B R s1 e1 _ R1.out).mono ?_
  rw [p2.out]
  rintro en w2 ⟨rfl, r, g⟩
  have Ra := hide r
  have Aa := hide (A1.out.grown g hn1.out.1)
  have Xa := hide (X1.out.grown g hn1.out.2)
  have Ga := hide (G1.out.trans g)
  clear r g R1 A1 X1 G1
  have q := Xa.out.1
  have f := Xa.out.2
  unfold Vi at q
  unfold Vf at f
  simp only [Nat.zero_add] at q f
  obtain ⟨q0, q1, q2, q3, q4⟩ := q
  obtain ⟨f0, f1, f2, f3, f4⟩ := f
  have X2 := hide (Xa.out.set1 K)
  have R2 := hide (Ra.out.grown (gb_set _ ⟨w.heap.size + 1, 1, none⟩ (.int .i64 K)) (by simp; omega) (by simp; omega))
  have A2 := hide (Aa.out.grown (gb_set _ ⟨w.heap.size + 1, 1, none⟩ (.int .i64 K)) (by simp))
  have G2 := hide (Ga.out.andThen (gb_set _ ⟨w.heap.size + 1, 1, none⟩ (.int .i64 K)) (by simp))
  go_wp2_with fail
  clear Xa Ra Aa Ga q0 q1 q2 q3 q4 f0 f1 f2 f3 f4
  refine (number_any B R s2 e2 _ R2.out).mono ?_
  rw [p3.out]
  rintro en w3 ⟨rfl, r, g⟩
  have Ra := hide r
  have Aa := hide (A2.out.grown g hn1.out.1)
  have Xa := hide (X2.out.grown g hn1.out.2)
  have Ga := hide (G2.out.trans g)
  clear r g R2 A2 X2 G2
  have q := Xa.out.1
  have f := Xa.out.2
  unfold Vi at q
  unfold Vf at f
  simp only [Nat.zero_add] at q f
  obtain ⟨q0, q1, q2, q3, q4⟩ := q
  obtain ⟨f0, f1, f2, f3, f4⟩ := f
  have X3 := hide (Xa.out.set2 T)
  have R3 := hide (Ra.out.grown (gb_set _ ⟨w.heap.size + 1, 2, none⟩ (.int .u64 T)) (by simp; omega) (by simp; omega))
  have A3 := hide (Aa.out.grown (gb_set _ ⟨w.heap.size + 1, 2, none⟩ (.int .u64 T)) (by simp))
  have G3 := hide (Ga.out.andThen (gb_set _ ⟨w.heap.size + 1, 2, none⟩ (.int .u64 T)) (by simp))
  go_wp2_with fail
  clear Xa Ra Aa Ga q0 q1 q2 q3 q4 f0 f1 f2 f3 f4
  refine (number_any B R s3 e3 _ R3.out).mono ?_
  rw [p4.out]
  rintro en w4 ⟨rfl, r, g⟩
  have Ra := hide r
  have Aa := hide (A3.out.grown g hn1.out.1)
  have Xa := hide (X3.out.grown g hn1.out.2)
  have Ga := hide (G3.out.trans g)
  clear r g R3 A3 X3 G3
  have q := Xa.out.1
  have f := Xa.out.2
  unfold Vi at q
  unfold Vf at f
  simp only [Nat.zero_add] at q f
  obtain ⟨q0, q1, q2, q3, q4⟩ := q
  obtain ⟨f0, f1, f2, f3, f4⟩ := f
  have X4 := hide (Xa.out.set3 V)
  have R4 := hide (Ra.out.grown (gb_set _ ⟨w.heap.size + 1, 3, none⟩ (.int .u64 V)) (by simp; omega) (by simp; omega))
  have A4 := hide (Aa.out.grown (gb_set _ ⟨w.heap.size + 1, 3, none⟩ (.int .u64 V)) (by simp))
  have G4 := hide (Ga.out.andThen (gb_set _ ⟨w.heap.size + 1, 3, none⟩ (.int .u64 V)) (by simp))
  go_wp2_with fail
  clear Xa Ra Aa Ga q0 q1 q2 q3 q4 f0 f1 f2 f3 f4
  have hN := num1_range (s4, e4) (re_range R4.out)
  rw [p5.out] at hN
  refine (number_any B R s4 e4 _ R4.out).mono ?_
  rw [p5.out]
  rintro en w5 ⟨rfl, r, g⟩
  have Ra := hide r
  have Aa := hide (A4.out.grown g hn1.out.1)
  have Xa := hide (X4.out.grown g hn1.out.2)
  have Ga := hide (G4.out.trans g)
  clear r g R4 A4 X4 G4
  go_wp2_with fail
  refine (unsign_any N w5 hN.1 hN.2).mono ?_
  rintro en w6 ⟨rfl, hw⟩
  rw [hw]
  clear hw
  have q := Xa.out.1
  have f := Xa.out.2
  unfold Vi at q
  unfold Vf at f
  simp only [Nat.zero_add] at q f
  obtain ⟨q0, q1, q2, q3, q4⟩ := q
  obtain ⟨f0, f1, f2, f3, f4⟩ := f
  have X5 := hide (Xa.out.set4 (usgn N))
  have R5 := hide (Ra.out.grown (gb_set _ ⟨w.heap.size + 1, 4, none⟩ (.int .i64 (usgn N))) (by simp; omega) (by simp; omega))
  have A5 := hide (Aa.out.grown (gb_set _ ⟨w.heap.size + 1, 4, none⟩ (.int .i64 (usgn N))) (by simp))
  have G5 := hide (Ga.out.andThen (gb_set _ ⟨w.heap.size + 1, 4, none⟩ (.int .i64 (usgn N))) (by simp))
  clear Xa Ra Aa Ga
  have qa := A5.out.1
  have fa := A5.out.2
  unfold Vi at qa
  unfold Vf at fa
  simp only [Nat.zero_add] at qa fa
  obtain ⟨a0, a1, a2, a3, a4⟩ := qa
  obtain ⟨b0, b1, b2, b3, b4⟩ := fa
  have A6 := hide (((((A5.out.set0 S).set1 K).set2 T).set3 V).set4 (usgn N))
  have g1 := gb_set (w5.setCell ⟨w.heap.size + 1, 4, none⟩ (.int .i64 (usgn N))) ⟨w.heap.size, 0, none⟩ (.int .i64 S)
  have g2 := g1.trans (gb_set _ ⟨w.heap.size, 1, none⟩ (.int .i64 K))
  have g3 := g2.trans (gb_set _ ⟨w.heap.size, 2, none⟩ (.int .u64 T))
  have g4 := g3.trans (gb_set _ ⟨w.heap.size, 3, none⟩ (.int .u64 V))
  have g5 := g4.trans (gb_set _ ⟨w.heap.size, 4, none⟩ (.int .i64 (usgn N)))
  have G6 := hide (G5.out.andThen g5 (by simp))
  have R6 := hide (R5.out.grown g5 (by simp; omega) (by simp; omega))
  clear g1 g2 g3 g4 g5 X5 R5 G5 A5
  go_wp2_with fail
  exact bodyPost_ret (vx_results A6.out _ rfl) rfl ⟨rfl, R6.out, G6.out⟩

theorem ritem_any (B R : Nat) (zs : List Int) (e : Int) (w : World) (h : Re w B R zs e) (hB : B ≤ w.heap.size) :
    Calls Try.prog 39 #[.pointer (some ⟨R, 0, none⟩)] w fun en w' => en = .returned (.agg #[.int .i64 (item1 (zs, e)).1.S, .int .i64 (item1 (zs, e)).1.K, .int .u64 (item1 (zs, e)).1.T, .int .u64 (item1 (zs, e)).1.V, .int .i64 (item1 (zs, e)).1.X]) ∧ Re w' B R (item1 (zs, e)).2.1 (item1 (zs, e)).2.2 ∧ w.grownBy w' (some R) :=
  ritem_core B R zs e w h hB _ _ _ _ _ _ _ _ _ _ _ _ _ _ _ (hide rfl) (hide rfl) (hide rfl) (hide rfl) (hide rfl)

end Go.Proofs.Ytfmofkkjnepbcaa.Clep
