/- What the reader of package item does when called: a byte, a number, an item taken from what is left. Conditions: its two cells hold what is said. -/
import Derived.Test.YtdldpdllhnpdaaaGreatZh
import Derived.Test.YtdldpdllhnpdaaaGreatZa
import Derived.Test.YtdldpdllhnpdaaaGreatZe
import Derived.Maps.Range
import Derived.BigRegion
namespace Go.Proofs.YtdldpdllhnpdaaaGreat.Clep
open Go.RowKit
set_option linter.unusedVariables false
set_option maxRecDepth 10000

theorem Bs.grown {w w' : World} {row : Option Nat} {ao : Option Addr} {len cap : Nat} {zs : List Int} (h : Bs w ao len cap zs) (hg : w.grownBy w' row) (hne : 0 < len → ∀ a, ao = some a → some a.block ≠ row) : Bs w' ao len cap zs := by
  refine ⟨h.1, h.2.1, h.2.2.1, fun h0 => ?_⟩
  obtain ⟨b, off, ho, hc⟩ := h.2.2.2 h0
  exact ⟨b, off, ho, fun i hi => gb_cell hg _ (hc i hi) (hne h0 ⟨b, off, none⟩ ho)⟩
/-- The reader in block R: what is left, and its error. The bytes lie below B. -/
def Re (w : World) (B R : Nat) (zs : List Int) (e : Int) : Prop :=
  (∃ ao len cap, w.cell? ⟨R, 0, none⟩ = some (.slice ao len cap) ∧ Bs w ao len cap zs ∧ cap ≤ 9223372036854775807 ∧ (0 < len → ∀ a, ao = some a → a.block < B)) ∧
    w.cell? ⟨R, 1, none⟩ = some (.int .i64 e) ∧ w.frozen? ⟨R, 0, none⟩ = false ∧ w.frozen? ⟨R, 1, none⟩ = false ∧ B ≤ R
theorem Re.lt {w : World} {B R : Nat} {zs : List Int} {e : Int} (h : Re w B R zs e) : R < w.heap.size := World.block_lt_of_cell? w _ h.2.1
theorem Re.grown {w w' : World} {B R : Nat} {zs : List Int} {e : Int} {row : Option Nat} (h : Re w B R zs e) (hg : w.grownBy w' row) (hne : some R ≠ row) (hB : ∀ k, row = some k → B ≤ k) : Re w' B R zs e := by
  have hl := h.lt
  obtain ⟨⟨ao, len, cap, h0, hb, hc, ha⟩, h1, f0, f1, hr⟩ := h
  have hbl := hg.block R hl hne
  refine ⟨⟨ao, len, cap, gb_cell hg _ h0 hne, hb.grown hg (fun h9 a e he => ?_), hc, ha⟩, gb_cell hg _ h1 hne, (World.frozen?_of_block (a := ⟨R, 0, none⟩) (w := w) hbl).trans f0, (World.frozen?_of_block (a := ⟨R, 1, none⟩) (w := w) hbl).trans f1, hr⟩
  have := ha h9 a e
  have := hB a.block he.symm
  omega
theorem Re.keep {w w' : World} {B R : Nat} {zs : List Int} {e : Int} (h : Re w B R zs e) (hb : Below w.heap.size w w') : Re w' B R zs e := h.grown (gb_below hb none) (by simp) (by simp)
theorem Re.setE {w : World} {B R : Nat} {zs : List Int} {e : Int} (h : Re w B R zs e) (n : Int) : Re (w.setCell ⟨R, 1, none⟩ (.int .i64 n)) B R zs n := by
  obtain ⟨⟨ao, len, cap, h0, hb, hc, ha⟩, h1, f0, f1, hr⟩ := h
  refine ⟨⟨ao, len, cap, ?_, hb.grown (gb_set _ _ _) (fun h9 a e he => ?_), hc, ha⟩, ?_, by simpa using f0, by simpa using f1, hr⟩
  · rw [World.cell?_setCell_other (h := by simp)]; exact h0
  · have := ha h9 a e
    simp at he; omega
  · rw [World.cell?_setCell_same (h := h1)]
theorem Re.setL {w : World} {B R : Nat} {zs ys : List Int} {e : Int} (h : Re w B R zs e) (ao : Option Addr) (len cap : Nat) (hb : Bs w ao len cap ys) (hc : cap ≤ 9223372036854775807) (ha : 0 < len → ∀ a, ao = some a → a.block < B) : Re (w.setCell ⟨R, 0, none⟩ (.slice ao len cap)) B R ys e := by
  obtain ⟨⟨ao0, len0, cap0, h0, -, -, -⟩, h1, f0, f1, hr⟩ := h
  refine ⟨⟨ao, len, cap, ?_, hb.grown (gb_set _ _ _) (fun h9 a e he => ?_), hc, ha⟩, ?_, by simpa using f0, by simpa using f1, hr⟩
  · rw [World.cell?_setCell_same (h := h0)]
  · have := ha h9 a e
    simp at he; omega
  · rw [World.cell?_setCell_other (h := by simp)]; exact h1
theorem cut_block {a : Option Addr} {cap l B : Nat} (h : ∀ x, a = some x → x.block < B) : ∀ x, cut a cap l = some x → x.block < B := by
  intro x hx
  unfold cut at hx
  split at hx
  · exact h x hx
  · cases a with
    | none => cases hx
    | some y =>
      simp at hx
      subst hx
      have := h y rfl
      unfold Addr.add
      split <;> exact this

/-- What a byte comes to: the byte, what is left, the error. -/
def one1 (s : List Int × Int) : Int × List Int × Int := if s.2 ≠ 0 then (0, s) else match s.1 with
  | [] => (0, [], 4)
  | c :: r => (c, r, 0)
/-- What a number comes to. -/
def num1 (s : List Int × Int) : Int × List Int × Int := if s.2 ≠ 0 then (0, s) else ((tk s.1 0 0).1, s.1.drop (tk s.1 0 0).2.1.toNat, (tk s.1 0 0).2.2)

attribute [local go_sem ↓] cut_l

set_option maxHeartbeats 400000 in
theorem one_any (B R : Nat) (zs : List Int) (e : Int) (w : World) (h : Re w B R zs e) :
    Calls Tryz.prog 100 #[.pointer (some ⟨R, 0, none⟩)] w fun en w' => en = .returned (.int .i64 (one1 (zs, e)).1) ∧ Re w' B R (one1 (zs, e)).2.1 (one1 (zs, e)).2.2 ∧ w.grownBy w' (some R) := by
  have H := hide h
  obtain ⟨⟨ao, len, cap, h0, hb, hc, ha⟩, h1, f0, f1, hr⟩ := h
  by_cases he : e = 0
  · subst he
    cases zs with
    | nil =>
      have hl : len = 0 := by have := hb.1; simpa using this.symm
      subst hl
      have hp := hide (show one1 ([], 0) = (0, [], 4) from rfl)
      have H4 := hide (H.out.setE 4)
      clear hb
      go_enter Tryz.func100, Tryz.ntmps100
      go_wp2
      go_ret
      rw [hp.out]
      exact ⟨rfl, H4.out, gb_set _ _ _⟩
    | cons c r =>
      have hlen : len = r.length + 1 := by have := hb.1; simpa using this.symm
      obtain ⟨b, off, rfl, hcell⟩ := hb.2.2.2 (by omega)
      have hc0 := hcell 0 (by omega)
      have hcr := hb.2.2.1 0
      simp only [Nat.add_zero, List.getD, List.getElem?_cons_zero, Option.getD_some] at hc0 hcr
      have hp := hide (show one1 (c :: r, 0) = (c, r, 0) from rfl)
      have hcu := hb.cut 1 len (by omega) (Nat.le_refl _)
      rw [List.take_of_length_le (by rw [hb.1]; exact Nat.le_refl _), List.drop_one, List.tail_cons] at hcu
      have H4 := hide (H.out.setL _ _ _ hcu (by omega) (fun _ => cut_block (ha (by omega))))
      have hcap := hb.2.1.1
      have hl0 : 0 < len := by omega
      clear hb hcu hcell
      have hlb : ((len : Int) == 0) = false := by simp; omega
      have hl1 : (1 : Int) ≤ (len : Int) := by omega
      clear hlen
      go_enter Tryz.func100, Tryz.ntmps100
      go_wp2
      go_ret
      rw [hp.out]
      exact ⟨rfl, H4.out, gb_set _ _ _⟩
  · have hp := hide (show one1 (zs, e) = (0, zs, e) by unfold one1; rw [if_pos he])
    have heb : (e != 0) = true := by simp; omega
    clear hb
    go_enter Tryz.func100, Tryz.ntmps100
    go_wp2
    go_ret
    rw [hp.out]
    exact ⟨rfl, H.out, gb_below (Below.refl _ _) _⟩

set_option maxHeartbeats 800000 in
theorem number_any (B R : Nat) (zs : List Int) (e : Int) (w : World) (h : Re w B R zs e) :
    Calls Tryz.prog 79 #[.pointer (some ⟨R, 0, none⟩)] w fun en w' => en = .returned (.int .u64 (num1 (zs, e)).1) ∧ Re w' B R (num1 (zs, e)).2.1 (num1 (zs, e)).2.2 ∧ w.grownBy w' (some R) := by
  have H := hide h
  obtain ⟨⟨ao, len, cap, h0, hb, hc, ha⟩, h1, f0, f1, hr⟩ := h
  by_cases he : e = 0
  · subst he
    have hs := tk_size zs 0 0 (by omega)
    have hp := hide (show num1 (zs, 0) = ((tk zs 0 0).1, zs.drop (tk zs 0 0).2.1.toNat, (tk zs 0 0).2.2) from rfl)
    have ht := hide (take_any ao len cap zs w (by have := hb.2.1.1; omega) hb)
    have hlen := hb.1
    have hcap := hb.2.1.1
    generalize tk zs 0 0 = rr at *
    obtain ⟨n, s, e'⟩ := rr
    simp only at hs hp
    unfold tup at ht
    simp only at ht
    have hcu := hb.cut s.toNat len (by omega) (Nat.le_refl _)
    rw [List.take_of_length_le (by rw [hlen]; exact Nat.le_refl _)] at hcu
    have H4 := hide ((H.out.setE e').setL _ _ _ (hcu.grown (gb_set w ⟨R, 1, none⟩ (.int .i64 e')) (fun h9 a e he => by have := cut_block (ha (by omega)) a e; simp at he; omega)) (by omega) (fun h9 => cut_block (ha (by omega))))
    have hG := hide ((gb_set w ⟨R, 1, none⟩ (.int .i64 e')).trans (gb_set _ ⟨R, 0, none⟩ (.slice (cut ao cap s.toNat) (len - s.toNat) (cap - s.toNat))))
    have hsl : s ≤ (len : Int) := by omega
    have hs0 := hs.1
    clear hb hcu hlen hs ha
    go_enter Tryz.func79, Tryz.ntmps79
    go_wp2_with fail
    refine ht.out.mono ?_
    rintro en w1 ⟨rfl, rfl⟩
    go_wp2
    go_ret
    rw [hp.out]
    exact ⟨rfl, H4.out, hG.out⟩
  · have hp := hide (show num1 (zs, e) = (0, zs, e) by unfold num1; rw [if_pos he])
    have heb : (e != 0) = true := by simp; omega
    clear hb
    go_enter Tryz.func79, Tryz.ntmps79
    go_wp2
    go_ret
    rw [hp.out]
    exact ⟨rfl, H.out, gb_below (Below.refl _ _) _⟩

end Go.Proofs.YtdldpdllhnpdaaaGreat.Clep

/- What the reader of package item does when called for an item: for whatever is left. Conditions: its two cells hold what is said. -/
namespace Go.Proofs.YtdldpdllhnpdaaaGreat.Clep
open Go.RowKit
set_option linter.unusedVariables false
set_option maxRecDepth 10000

/-- What an item comes to. -/
def item1 (s : List Int × Int) : It × List Int × Int :=
  let a := one1 s; let b := one1 a.2; let c := num1 b.2; let d := num1 c.2; let e := num1 d.2
  (⟨a.1, b.1, c.1, d.1, usgn e.1⟩, e.2)
theorem re_range {w : World} {B R : Nat} {zs : List Int} {e : Int} (h : Re w B R zs e) : ∀ z ∈ zs, 0 ≤ z ∧ z < 256 := by
  obtain ⟨⟨_, _, _, _, hb, _, _⟩, _⟩ := h
  exact bs_range hb
theorem num1_range (s : List Int × Int) (h : ∀ z ∈ s.1, 0 ≤ z ∧ z < 256) : 0 ≤ (num1 s).1 ∧ (num1 s).1 ≤ 18446744073709551615 := by
  unfold num1
  split
  · simp
  · have := tk_facts s.1 0 0 (by omega) h (by omega) (by simp)
    exact ⟨this.1, this.2.1⟩

theorem vx_results {w : World} {R : Nat} {S K T V X : Int} (h : Vx w R S K T V X) (ts : Array Value) (h2 : ts.getD 2 undef = .pointer (some ⟨R, 0, none⟩)) :
    (results Tryz.f81 ts).run Tryz.prog w = .ok (.agg #[.int .i64 S, .int .i64 K, .int .u64 T, .int .u64 V, .int .i64 X]) w := by
  obtain ⟨⟨h0, h1, h3, h4, h5⟩, -⟩ := h
  simp only [Nat.zero_add] at h1 h3 h4 h5
  rw [Array.getD_eq_getD_getElem?] at h2
  simp [results, Tryz.results81, go_sem, h0, h1, h2, h3, h4, h5]

set_option maxHeartbeats 1000000 in
theorem ritem_core (B R : Nat) (zs : List Int) (e : Int) (w : World) (h : Re w B R zs e) (hB : B ≤ w.heap.size) (S K T V N : Int) (s1 s2 s3 s4 s5 : List Int) (e1 e2 e3 e4 e5 : Int)
    (p1 : Hid (one1 (zs, e) = (S, s1, e1))) (p2 : Hid (one1 (s1, e1) = (K, s2, e2))) (p3 : Hid (num1 (s2, e2) = (T, s3, e3))) (p4 : Hid (num1 (s3, e3) = (V, s4, e4))) (p5 : Hid (num1 (s4, e4) = (N, s5, e5))) :
    Calls Tryz.prog 81 #[.pointer (some ⟨R, 0, none⟩)] w fun en w' => en = .returned (.agg #[.int .i64 S, .int .i64 K, .int .u64 T, .int .u64 V, .int .i64 (usgn N)]) ∧ Re w' B R s5 e5 ∧ w.grownBy w' (some R) := by
  have hR := h.lt
  have W0 := ((Below.refl _ w).alloc (Nat.le_refl _) (Obj.cells #[Value.int IntKind.i64 0, Value.int IntKind.i64 0, Value.int IntKind.u64 0, Value.int IntKind.u64 0, Value.int IntKind.i64 0] 48)).alloc (by simp) (Obj.cells #[Value.int IntKind.i64 0, Value.int IntKind.i64 0, Value.int IntKind.u64 0, Value.int IntKind.u64 0, Value.int IntKind.i64 0] 48)
  have R0 := hide (h.keep W0)
  have A0 := hide ((vx_new w 0 0 0 0 0).grown (gb_below ((Below.refl _ _).alloc (Nat.le_refl _) (Obj.cells #[Value.int IntKind.i64 0, Value.int IntKind.i64 0, Value.int IntKind.u64 0, Value.int IntKind.u64 0, Value.int IntKind.i64 0] 48)) none) (by simp))
  have X0 := vx_new (w.alloc (Obj.cells #[Value.int IntKind.i64 0, Value.int IntKind.i64 0, Value.int IntKind.u64 0, Value.int IntKind.u64 0, Value.int IntKind.i64 0] 48)) 0 0 0 0 0
  rw [show (w.alloc (Obj.cells #[Value.int IntKind.i64 0, Value.int IntKind.i64 0, Value.int IntKind.u64 0, Value.int IntKind.u64 0, Value.int IntKind.i64 0] 48)).heap.size = w.heap.size + 1 from by simp] at X0
  have X0 := hide X0
  have G0 := hide (gb_below W0 (some R))
  have hn1 : Hid (some (w.heap.size) ≠ some R ∧ some (w.heap.size + 1) ≠ some R) := hide ⟨by simp; omega, by simp; omega⟩
  clear h W0
  go_enter Tryz.func81, Tryz.ntmps81
  go_wp2_with fail
  refine (one_any B R zs e _ R0.out).mono ?_
  rw [p1.out]
  rintro en w1 ⟨rfl, r, g⟩
  have Ra := hide r
  have Aa := hide (A0.out.grown g hn1.out.1)
  have Xa := hide (X0.out.grown g hn1.out.2)
  have Ga := hide (G0.out.trans g)
  clear r g R0 A0 X0 G0
  have q := Xa.out.1
  have f := Xa.out.2
  unfold Vi at q
  unfold Vf at f
  simp only [Nat.zero_add] at q f
  obtain ⟨q0, q1, q2, q3, q4⟩ := q
  obtain ⟨f0, f1, f2, f3, f4⟩ := f
  have X1 := hide (Xa.out.set0 S)
  have R1 := hide (Ra.out.grown (gb_set _ ⟨w.heap.size + 1, 0, none⟩ (.int .i64 S)) (by simp; omega) (by simp; omega))
  have A1 := hide (Aa.out.grown (gb_set _ ⟨w.heap.size + 1, 0, none⟩ (.int .i64 S)) (by simp))
  have G1 := hide (Ga.out.andThen (gb_set _ ⟨w.heap.size + 1, 0, none⟩ (.int .i64 S)) (by simp))
  go_wp2_with fail
  clear Xa Ra Aa Ga q0 q1 q2 q3 q4 f0 f1 f2 f3 f4
  refine (one_any B R s1 e1 _ R1.out).mono ?_
  rw [p2.out]
  rintro en w2 ⟨rfl, r, g⟩
  have Ra := hide r
  have Aa := hide (A1.out.grown g hn1.out.1)
  have Xa := hide (X1.out.grown g hn1.out.2)
  have Ga := hide (G1.out.trans g)
  clear r g R1 A1 X1 G1
  have q := Xa.out.1
  have f := Xa.out.2
  unfold Vi at q
  unfold Vf at f
  simp only [Nat.zero_add] at q f
  obtain ⟨q0, q1, q2, q3, q4⟩ := q
  obtain ⟨f0, f1, f2, f3, f4⟩ := f
  have X2 := hide (Xa.out.set1 K)
  have R2 := hide (Ra.out.grown (gb_set _ ⟨w.heap.size + 1, 1, none⟩ (.int .i64 K)) (by simp; omega) (by simp; omega))
  have A2 := hide (Aa.out.grown (gb_set _ ⟨w.heap.size + 1, 1, none⟩ (.int .i64 K)) (by simp))
  have G2 := hide (Ga.out.andThen (gb_set _ ⟨w.heap.size + 1, 1, none⟩ (.int .i64 K)) (by simp))
  go_wp2_with fail
  clear Xa Ra Aa Ga q0 q1 q2 q3 q4 f0 f1 f2 f3 f4
  refine (number_any B R s2 e2 _ R2.out).mono ?_
  rw [p3.out]
  rintro en w3 ⟨rfl, r, g⟩
  have Ra := hide r
  have Aa := hide (A2.out.grown g hn1.out.1)
  have Xa := hide (X2.out.grown g hn1.out.2)
  have Ga := hide (G2.out.trans g)
  clear r g R2 A2 X2 G2
  have q := Xa.out.1
  have f := Xa.out.2
  unfold Vi at q
  unfold Vf at f
  simp only [Nat.zero_add] at q f
  obtain ⟨q0, q1, q2, q3, q4⟩ := q
  obtain ⟨f0, f1, f2, f3, f4⟩ := f
  have X3 := hide (Xa.out.set2 T)
  have R3 := hide (Ra.out.grown (gb_set _ ⟨w.heap.size + 1, 2, none⟩ (.int .u64 T)) (by simp; omega) (by simp; omega))
  have A3 := hide (Aa.out.grown (gb_set _ ⟨w.heap.size + 1, 2, none⟩ (.int .u64 T)) (by simp))
  have G3 := hide (Ga.out.andThen (gb_set _ ⟨w.heap.size + 1, 2, none⟩ (.int .u64 T)) (by simp))
  go_wp2_with fail
  clear Xa Ra Aa Ga q0 q1 q2 q3 q4 f0 f1 f2 f3 f4
  refine (number_any B R s3 e3 _ R3.out).mono ?_
  rw [p4.out]
  rintro en w4 ⟨rfl, r, g⟩
  have Ra := hide r
  have Aa := hide (A3.out.grown g hn1.out.1)
  have Xa := hide (X3.out.grown g hn1.out.2)
  have Ga := hide (G3.out.trans g)
  clear r g R3 A3 X3 G3
  have q := Xa.out.1
  have f := Xa.out.2
  unfold Vi at q
  unfold Vf at f
  simp only [Nat.zero_add] at q f
  obtain ⟨q0, q1, q2, q3, q4⟩ := q
  obtain ⟨f0, f1, f2, f3, f4⟩ := f
  have X4 := hide (Xa.out.set3 V)
  have R4 := hide (Ra.out.grown (gb_set _ ⟨w.heap.size + 1, 3, none⟩ (.int .u64 V)) (by simp; omega) (by simp; omega))
  have A4 := hide (Aa.out.grown (gb_set _ ⟨w.heap.size + 1, 3, none⟩ (.int .u64 V)) (by simp))
  have G4 := hide (Ga.out.andThen (gb_set _ ⟨w.heap.size + 1, 3, none⟩ (.int .u64 V)) (by simp))
  go_wp2_with fail
  clear Xa Ra Aa Ga q0 q1 q2 q3 q4 f0 f1 f2 f3 f4
  have hN := num1_range (s4, e4) (re_range R4.out)
  rw [p5.out] at hN
  refine (number_any B R s4 e4 _ R4.out).mono ?_
  rw [p5.out]
  rintro en w5 ⟨rfl, r, g⟩
  have Ra := hide r
  have Aa := hide (A4.out.grown g hn1.out.1)
  have Xa := hide (X4.out.grown g hn1.out.2)
  have Ga := hide (G4.out.trans g)
  clear r g R4 A4 X4 G4
  go_wp2_with fail
  refine (unsign_any N w5 hN.1 hN.2).mono ?_
  rintro en w6 ⟨rfl, hw⟩
  rw [hw]
  clear hw
  have q := Xa.out.1
  have f := Xa.out.2
  unfold Vi at q
  unfold Vf at f
  simp only [Nat.zero_add] at q f
  obtain ⟨q0, q1, q2, q3, q4⟩ := q
  obtain ⟨f0, f1, f2, f3, f4⟩ := f
  have X5 := hide (Xa.out.set4 (usgn N))
  have R5 := hide (Ra.out.grown (gb_set _ ⟨w.heap.size + 1, 4, none⟩ (.int .i64 (usgn N))) (by simp; omega) (by simp; omega))
  have A5 := hide (Aa.out.grown (gb_set _ ⟨w.heap.size + 1, 4, none⟩ (.int .i64 (usgn N))) (by simp))
  have G5 := hide (Ga.out.andThen (gb_set _ ⟨w.heap.size + 1, 4, none⟩ (.int .i64 (usgn N))) (by simp))
  clear Xa Ra Aa Ga
  have qa := A5.out.1
  have fa := A5.out.2
  unfold Vi at qa
  unfold Vf at fa
  simp only [Nat.zero_add] at qa fa
  obtain ⟨a0, a1, a2, a3, a4⟩ := qa
  obtain ⟨b0, b1, b2, b3, b4⟩ := fa
  have A6 := hide (((((A5.out.set0 S).set1 K).set2 T).set3 V).set4 (usgn N))
  have g1 := gb_set (w5.setCell ⟨w.heap.size + 1, 4, none⟩ (.int .i64 (usgn N))) ⟨w.heap.size, 0, none⟩ (.int .i64 S)
  have g2 := g1.trans (gb_set _ ⟨w.heap.size, 1, none⟩ (.int .i64 K))
  have g3 := g2.trans (gb_set _ ⟨w.heap.size, 2, none⟩ (.int .u64 T))
  have g4 := g3.trans (gb_set _ ⟨w.heap.size, 3, none⟩ (.int .u64 V))
  have g5 := g4.trans (gb_set _ ⟨w.heap.size, 4, none⟩ (.int .i64 (usgn N)))
  have G6 := hide (G5.out.andThen g5 (by simp))
  have R6 := hide (R5.out.grown g5 (by simp; omega) (by simp; omega))
  clear g1 g2 g3 g4 g5 X5 R5 G5 A5
  go_wp2_with fail
  exact bodyPost_ret (vx_results A6.out _ rfl) rfl ⟨rfl, R6.out, G6.out⟩

theorem ritem_any (B R : Nat) (zs : List Int) (e : Int) (w : World) (h : Re w B R zs e) (hB : B ≤ w.heap.size) :
    Calls Tryz.prog 81 #[.pointer (some ⟨R, 0, none⟩)] w fun en w' => en = .returned (.agg #[.int .i64 (item1 (zs, e)).1.S, .int .i64 (item1 (zs, e)).1.K, .int .u64 (item1 (zs, e)).1.T, .int .u64 (item1 (zs, e)).1.V, .int .i64 (item1 (zs, e)).1.X]) ∧ Re w' B R (item1 (zs, e)).2.1 (item1 (zs, e)).2.2 ∧ w.grownBy w' (some R) :=
  ritem_core B R zs e w h hB _ _ _ _ _ _ _ _ _ _ _ _ _ _ _ (hide rfl) (hide rfl) (hide rfl) (hide rfl) (hide rfl)

end Go.Proofs.YtdldpdllhnpdaaaGreat.Clep

/- Rows of items that a call made: one item more, and what such a row leads to. Conditions: at most 2^40 items. -/
namespace Go.Proofs.YtdldpdllhnpdaaaGreat.Clep
open Go.RowKit
set_option linter.unusedVariables false
set_option maxRecDepth 10000

end Go.Proofs.YtdldpdllhnpdaaaGreat.Clep

/- What item.Read does when called: for any bytes of at most 2^62. No conditions. -/
namespace Go.Proofs.YtdldpdllhnpdaaaGreat.Clep
open Go.RowKit
set_option linter.unusedVariables false
set_option maxRecDepth 10000

theorem one1_rng (s : List Int × Int) (h : ∀ z ∈ s.1, 0 ≤ z ∧ z < 256) : (∀ z ∈ (one1 s).2.1, 0 ≤ z ∧ z < 256) ∧ 0 ≤ (one1 s).1 ∧ (one1 s).1 < 256 := by
  obtain ⟨l, e⟩ := s
  unfold one1
  split
  · exact ⟨h, by simp⟩
  · cases l with
    | nil => simp
    | cons c r => exact ⟨fun z hz => h z (by simp [hz]), h c (by simp)⟩
theorem num1_rng (s : List Int × Int) (h : ∀ z ∈ s.1, 0 ≤ z ∧ z < 256) : ∀ z ∈ (num1 s).2.1, 0 ≤ z ∧ z < 256 := by
  obtain ⟨l, e⟩ := s
  unfold num1
  split
  · exact h
  · exact fun z hz => h z (List.mem_of_mem_drop hz)
theorem item1_wf (s : List Int × Int) (h : ∀ z ∈ s.1, 0 ≤ z ∧ z < 256) : (item1 s).1.wf := by
  have h1 := one1_rng s h
  have h2 := one1_rng (one1 s).2 h1.1
  have h3 := num1_rng (one1 (one1 s).2).2 h2.1
  have h4 := num1_rng (num1 (one1 (one1 s).2).2).2 h3
  have r3 := num1_range (one1 (one1 s).2).2 h2.1
  have r4 := num1_range (num1 (one1 (one1 s).2).2).2 h3
  have r5 := num1_range (num1 (num1 (one1 (one1 s).2).2).2).2 h4
  have r6 := usgn_range _ r5.1 r5.2
  exact ⟨by show _ ≤ (one1 s).1 ∧ (one1 s).1 ≤ _; omega, by show _ ≤ (one1 (one1 s).2).1 ∧ (one1 (one1 s).2).1 ≤ _; omega, r3, r4, r6⟩

/-- c items of s behind acc: the items, what is left, the error. -/
def rds : Nat → List Int × Int → List It → List It × List Int × Int
  | 0, s, acc => (acc, s)
  | c + 1, s, acc => if (item1 s).2.2 ≠ 0 then ([], (item1 s).2) else rds c (item1 s).2 (acc ++ [(item1 s).1])
/-- What Read answers. -/
def rd (zs : List Int) : List It × Int :=
  if (num1 (zs, 0)).2.2 ≠ 0 then ([], (num1 (zs, 0)).2.2) else if 2000 < (num1 (zs, 0)).1 then ([], 2) else
    let r := rds (num1 (zs, 0)).1.toNat (num1 (zs, 0)).2 []
    if r.2.2 ≠ 0 then ([], r.2.2) else if r.1.all It.ok = true ∧ r.2.1 = [] then (r.1, 0) else ([], 3)

theorem okc_snoc (acc : List It) (k : Nat) (x : It) (h : acc.length = k) : okc (acc ++ [x]) (k + 1) = okc acc k + if x.ok then 1 else 0 := by
  rw [okc_succ (acc ++ [x]) k x (by rw [List.getElem?_append_right (by omega), h]; simp)]
  unfold okc
  rw [List.take_append_of_le_length (by omega)]
/-- In the round: the reader, the tally, the items so far. -/
def Rr (w wr : World) (R Q : Nat) (k : Nat) (v : Value) (s : List Int) (e : Int) (acc : List It) : Prop :=
  Re wr w.heap.size R s e ∧ Ta wr Q k (okc acc k) ∧ OwnI wr (Q + 1) v acc ∧ acc.length = k ∧ (∀ x ∈ acc, x.wf) ∧ Below w.heap.size w wr ∧ R < Q ∧ w.heap.size ≤ R ∧ Q + 1 ≤ wr.heap.size

set_option maxHeartbeats 1000000 in
theorem read_core (ao : Option Addr) (len cap : Nat) (zs : List Int) (w : World) (hc : cap ≤ 9223372036854775807) (h : Bs w ao len cap zs) (n : Int) (s1 : List Int) (e1 : Int) (hp : Hid (num1 (zs, 0) = (n, s1, e1))) (RR : List It × Int) (hrr : Hid (rd zs = RR)) :
    Calls Tryz.prog 66 #[.slice ao len cap] w fun e w' => ∃ v, e = .returned (.tuple #[v, .int .i64 RR.2]) ∧ OwnI w' w.heap.size v RR.1 ∧ Below w.heap.size w w' := by
  have hn := num1_range (zs, 0) (bs_range h)
  rw [hp.out] at hn
  simp only at hn
  have R0 : Re (w.alloc (Obj.cells #[Value.slice ao len cap, Value.int IntKind.i64 0] 137)) w.heap.size w.heap.size zs 0 :=
    ⟨⟨ao, len, cap, by simp, h.below ((Below.refl _ w).alloc (Nat.le_refl _) _) (Nat.le_refl _), hc, fun h0 a ea => by obtain ⟨b, off, e, hcc⟩ := h.2.2.2 h0; rw [e] at ea; cases ea; exact World.block_lt_of_cell? w _ (hcc 0 h0)⟩, by simp, by simp, by simp, Nat.le_refl _⟩
  have HR0 := hide R0
  have B0 := hide ((Below.refl _ w).alloc (Nat.le_refl _) (Obj.cells #[Value.slice ao len cap, Value.int IntKind.i64 0] 137))
  clear h R0
  go_enter Tryz.func66, Tryz.ntmps66
  go_wp2_with fail
  refine (number_any w.heap.size w.heap.size zs 0 _ HR0.out).mono ?_
  rw [hp.out]
  rintro e w1 ⟨rfl, r1, g1⟩
  have R1 := hide r1
  have B1 := hide (B0.out.grown g1 (by simp) (fun k hk => by cases hk; exact Nat.le_refl _))
  clear r1 g1 HR0 B0
  obtain ⟨-, q1, -, -, -⟩ := R1.out
  by_cases he : e1 = 0
  · subst he
    clear q1
    by_cases hl : 2000 < n
    · have hRR := hide (show RR = ([], 2) by rw [← hrr.out]; unfold rd; rw [hp.out]; simp [hl])
      obtain ⟨-, q1, -, -, -⟩ := R1.out
      go_wp2
      go_ret2
      rw [hRR.out]
      exact ⟨_, rfl, ownI_nil _ _, B1.out⟩
    · have hRR := hide (show RR = (if (rds n.toNat (s1, 0) []).2.2 ≠ 0 then ([], (rds n.toNat (s1, 0) []).2.2) else if (rds n.toNat (s1, 0) []).1.all It.ok = true ∧ (rds n.toNat (s1, 0) []).2.1 = [] then ((rds n.toNat (s1, 0) []).1, 0) else ([], 3)) by
        rw [← hrr.out]; unfold rd; rw [hp.out]; simp [hl])
      clear hrr
      have hsz : w.heap.size < w1.heap.size := R1.out.lt
      have Q1 := hide (show Rr w (w1.alloc (Obj.cells #[Value.int IntKind.i64 0, Value.int IntKind.i64 0] 125)) w.heap.size w1.heap.size 0 (.slice none 0 0) s1 0 [] from
        ⟨R1.out.keep ((Below.refl _ _).alloc (Nat.le_refl _) _), by rw [okc_zero]; exact ta_new w1, ownI_nil _ _, rfl, by simp, B1.out.alloc B1.out.size _, hsz, Nat.le_refl _, by simp⟩)
      obtain ⟨N, rfl⟩ := Int.eq_ofNat_of_zero_le hn.1
      have hN : N ≤ 2000 := by omega
      obtain ⟨-, q1, -, -, -⟩ := R1.out
      rw [show ((N : Int)).toNat = N from rfl] at hRR
      obtain ⟨T0, hT0⟩ : ∃ T0, rds N (s1, 0) [] = T0 := ⟨_, rfl⟩
      rw [hT0] at hRR
      have hRR2 := hide hT0
      clear hT0
      clear q1
      obtain ⟨-, q1, -, -, -⟩ := R1.out
      go_wp2_with fail
      clear q1
      generalize w1.heap.size = Q at *
      go_loopw [6] (fun u wr => ∃ (k : Nat) (s : List Int) (acc : List It), k ≤ N ∧ Hid (Rr w wr w.heap.size Q k u s 0 acc) ∧ Hid (rds (N - k) (s, 0) acc = T0)) (fun u _ => N - lenOf u)
      case atStart => exact ⟨0, s1, [], by omega, Q1, hRR2⟩
      case round =>
        obtain ⟨k, s, acc, hk, hr, ht⟩ := hrel
        have Hl := hide (ownI_len hr.out.2.2.1)
        have Ha := hide hr.out.2.2.2.1
        by_cases hlt : k < N
        · have hstep := hide (show (if (item1 (s, 0)).2.2 ≠ 0 then ([], (item1 (s, 0)).2) else rds (N - (k + 1)) (item1 (s, 0)).2 (acc ++ [(item1 (s, 0)).1])) = T0 by
            rw [← ht.out, show N - k = N - (k + 1) + 1 from by omega, rds])
          have hxw := hide (item1_wf (s, 0) (re_range hr.out.1))
          have hit := hide (ritem_any w.heap.size w.heap.size s 0 wr hr.out.1 hr.out.2.2.2.2.2.1.size)
          generalize item1 (s, 0) = I at *
          obtain ⟨x, s', e'⟩ := I
          obtain ⟨S, K, T, V, X⟩ := x
          simp only at hstep hit
          clear ht
          go_wp2_with fail
          refine (tsum_any Q k (okc acc k) wr hr.out.2.1).mono ?_
          rintro e wr' ⟨rfl, hw⟩
          rw [hw]
          clear hw
          go_wp2_with fail
          refine hit.out.mono ?_
          rintro e w2 ⟨rfl, r2, g2⟩
          have hQ := hr.out.2.2.2.2.2.2.1
          have Re2 := hide r2
          have Ta2 := hide (hr.out.2.1.grown g2 (by simp; omega))
          have Ow2 := hide (ownI_grown hr.out.2.2.1 g2 (by simp; omega))
          have Be2 := hide (hr.out.2.2.2.2.2.1.grown g2 hr.out.2.2.2.2.2.1.size (fun j hj => by cases hj; exact Nat.le_refl _))
          have Wf2 := hide hr.out.2.2.2.2.1
          have Sz2 := hide (Nat.le_trans hr.out.2.2.2.2.2.2.2.2 g2.size)
          have Vx2 := hide (vi_new w2 S K T V X)
          have Re3 := hide (Re2.out.keep ((Below.refl _ _).alloc (Nat.le_refl _) (Obj.cells #[Value.int IntKind.i64 S, Value.int IntKind.i64 K, Value.int IntKind.u64 T, Value.int IntKind.u64 V, Value.int IntKind.i64 X] 48)))
          clear r2 g2 hr hit
          by_cases he : e' = 0
          · subst he
            have hst := hide (show rds (N - (k + 1)) (s', 0) (acc ++ [⟨S, K, T, V, X⟩]) = T0 by simpa using hstep.out)
            clear hstep
            have hav := hide (show some w2.heap.size ≠ Value.ownBlock u6 from fun e => by have := (World.ownsRow.lt Ow2.out _ e.symm).2; omega)
            have D2 : Below w2.heap.size w2 ((w2.alloc (Obj.cells #[Value.int IntKind.i64 S, Value.int IntKind.i64 K, Value.int IntKind.u64 T, Value.int IntKind.u64 V, Value.int IntKind.i64 X] 48)).alloc (Obj.cells #[Value.int IntKind.i64 S, Value.int IntKind.i64 K, Value.int IntKind.u64 T, Value.int IntKind.u64 V, Value.int IntKind.i64 X] 48)) := ((Below.refl _ _).alloc (Nat.le_refl _) _).alloc (by simp) _
            have Re4 := hide (Re2.out.keep D2)
            have Ta4 := hide (Ta2.out.keep D2)
            have Ow4 := hide (ownI_keep Ow2.out D2)
            have Be4 := hide (Be2.out.trans (D2.mono Be2.out.size))
            have Vx4 := hide (Vx2.out.keep ((Below.refl _ _).alloc (Nat.le_refl _) (Obj.cells #[Value.int IntKind.i64 S, Value.int IntKind.i64 K, Value.int IntKind.u64 T, Value.int IntKind.u64 V, Value.int IntKind.i64 X] 48)))
            have I4 := is_one (w2.alloc (Obj.cells #[Value.int IntKind.i64 S, Value.int IntKind.i64 K, Value.int IntKind.u64 T, Value.int IntKind.u64 V, Value.int IntKind.i64 X] 48)) S K T V X hxw.out
            rw [show (w2.alloc (Obj.cells #[Value.int IntKind.i64 S, Value.int IntKind.i64 K, Value.int IntKind.u64 T, Value.int IntKind.u64 V, Value.int IntKind.i64 X] 48)).heap.size = w2.heap.size + 1 from by simp] at I4
            have IS4 := hide I4
            have hs4 := hide (show Q + 1 ≤ ((w2.alloc (Obj.cells #[Value.int IntKind.i64 S, Value.int IntKind.i64 K, Value.int IntKind.u64 T, Value.int IntKind.u64 V, Value.int IntKind.i64 X] 48)).alloc (Obj.cells #[Value.int IntKind.i64 S, Value.int IntKind.i64 K, Value.int IntKind.u64 T, Value.int IntKind.u64 V, Value.int IntKind.i64 X] 48)).heap.size by have := Sz2.out; simp; omega)
            have hq2 : Q + 1 ≤ w2.heap.size := Sz2.out
            obtain ⟨-, q1, -, -, -⟩ := Re3.out
            have hal := hide (show acc.length + 1 ≤ 3518437208883 by have := Ha.out; omega)
            clear D2 I4 Re2 Ta2 Ow2 Be2 Vx2
            go_wp2_with (first
              | (at_builtin; refine wpList_append_items rfl _ _ rfl (Q + 1) _ acc rfl Ow4.out _ 1 1 _ rfl IS4.out hal.out hs4.out ?_)
              | fail)
            intro v5 w5 o5 g5 b5
            have Re5 := hide (Re4.out.grown g5 (fun e => by have := b5 _ e.symm; omega) (fun j hj => by have := b5 j hj; omega))
            have Ta5 := hide (Ta4.out.grown g5 (fun e => by have := b5 _ e.symm; omega))
            have Ow5 := hide o5
            have Vx5 := hide (Vx4.out.grown g5 hav.out)
            have Be5 := hide (Be4.out.grown g5 Be4.out.size (fun j hj => by have := b5 j hj; omega))
            have hs5 := hide (Nat.le_trans hs4.out g5.size)
            clear o5 g5 b5 Re4 Ta4 Ow4 Be4 Vx4 IS4 hs4 hav q1 Re3
            have hkc := okc_le acc k
            have q := Vx5.out
            unfold Vi at q
            simp only [Nat.zero_add] at q
            obtain ⟨v0, v1, v2, v3, v4⟩ := q
            go_wp2_with fail
            refine (count_any Q k (okc acc k) S K T V X _ Ta5.out (by omega) (by omega)).mono ?_
            rintro e w6 ⟨rfl, t6, g6⟩
            have HO : Hid (okc (acc ++ [⟨S, K, T, V, X⟩]) (k + 1) = okc acc k + if okI S K T V X then 1 else 0) := hide (okc_snoc acc k ⟨S, K, T, V, X⟩ Ha.out)
            have hR6 := hide (show Rr w w6 w.heap.size Q (k + 1) v5 s' 0 (acc ++ [⟨S, K, T, V, X⟩]) from
              ⟨Re5.out.grown g6 (by simp; omega) (by simp; omega), by rw [HO.out]; exact t6, ownI_grown Ow5.out g6 (by simp), by rw [List.length_append, Ha.out]; rfl, fun x hx => by
                  rcases List.mem_append.1 hx with h | h
                  · exact Wf2.out x h
                  · rw [List.mem_singleton.1 h]; exact hxw.out, Be5.out.grown g6 Be5.out.size (fun j hj => by cases hj; omega), hQ, Nat.le_refl _, Nat.le_trans hs5.out g6.size⟩)
            have hl6 := hide (ownI_len (ownI_grown Ow5.out g6 (by simp)))
            clear t6 g6 HO Re5 Ta5 Ow5 Vx5 Be5 hs5 v0 v1 v2 v3 v4
            go_wp2
            go_roundw
            case rel => exact ⟨k + 1, s', _, by omega, hR6, hst⟩
            case measure =>
              have h1 := hl6.out
              have h2 := Hl.out
              have h3 := Ha.out
              rw [List.length_append] at h1
              simp only [List.length_cons, List.length_nil] at h1
              omega
          · have hT := hide (show T0 = ([], s', e') by rw [← hstep.out, if_pos he])
            have hRE := hide (show RR = ([], e') by rw [hRR.out, hT.out]; simp [he])
            have heb : (e' != 0) = true := by simp; omega
            obtain ⟨-, q1, -, -, -⟩ := Re3.out
            have BE := hide (Be2.out.trans (((Below.refl _ w2).alloc (Nat.le_refl _) (Obj.cells #[Value.int IntKind.i64 S, Value.int IntKind.i64 K, Value.int IntKind.u64 T, Value.int IntKind.u64 V, Value.int IntKind.i64 X] 48)).mono Be2.out.size))
            clear hstep hT Re3 Ta2 Ow2 Be2 Vx2
            go_wp2_with fail
            go_region
            go_wp2
            go_ret2
            rw [hRE.out]
            exact ⟨_, rfl, ownI_nil _ _, BE.out.drew⟩
        · obtain rfl : k = N := by omega
          have hT := hide (show T0 = (acc, s, 0) by rw [← ht.out, Nat.sub_self, rds])
          have hall := hide (show (okc acc k == (k : Int)) = acc.all It.ok by rw [← okc_all, Ha.out])
          obtain ⟨⟨aS, lS, cS, qS, bS, -, -⟩, -, -, -, -⟩ := hr.out.1
          have hlS := hide bS.1
          clear bS
          go_wp2_with fail
          refine (tsum_any Q k (okc acc k) wr hr.out.2.1).mono ?_
          rintro e wr' ⟨rfl, hw⟩
          rw [hw]
          clear hw
          go_wp2_with fail
          refine (allfine_any Q k (okc acc k) wr hr.out.2.1).mono ?_
          rw [hall.out]
          rintro e w2 ⟨rfl, b2⟩
          have Be2 := hide (bmore hr.out.2.2.2.2.2.1 b2)
          have Ow2 := hide (ownI_base (ownI_keep hr.out.2.2.1 b2) (show w.heap.size ≤ Q + 1 by have := hr.out.2.2.2.2.2.2.1; omega))
          have q0 := gb_cell (gb_below b2 none) _ qS (by simp)
          clear b2 hr qS hall ht
          cases ha : acc.all It.ok with
          | false =>
            have hRE := hide (show RR = ([], 3) by rw [hRR.out, hT.out]; simp [ha])
            clear hRR hT ha
            go_wp2
            go_ret2
            rw [hRE.out]
            exact ⟨_, rfl, ownI_nil _ _, Be2.out⟩
          | true =>
            cases s with
            | nil =>
              have hRE := hide (show RR = (acc, 0) by rw [hRR.out, hT.out]; simp [ha])
              have h0 : lS = 0 := by have := hlS.out; simpa using this.symm
              subst h0
              clear hRR hT ha hlS
              go_wp2
              go_ret2
              rw [hRE.out]
              exact ⟨_, rfl, Ow2.out, Be2.out⟩
            | cons c r =>
              have hRE := hide (show RR = ([], 3) by rw [hRR.out, hT.out]; simp)
              have h0 : 0 < lS := by have := hlS.out; simp at this; omega
              clear hRR hT ha hlS
              go_wp2
              go_ret2
              rw [hRE.out]
              exact ⟨_, rfl, ownI_nil _ _, Be2.out⟩
  · have hRE := hide (show RR = ([], e1) by rw [← hrr.out]; unfold rd; rw [hp.out]; simp [he])
    have heb : (e1 != 0) = true := by simp; omega
    clear hrr
    go_wp2_with fail
    go_region
    go_wp2
    go_ret2
    rw [hRE.out]
    exact ⟨_, rfl, ownI_nil _ _, B1.out.drew⟩

theorem read_any (ao : Option Addr) (len cap : Nat) (zs : List Int) (w : World) (hc : cap ≤ 9223372036854775807) (h : Bs w ao len cap zs) :
    Calls Tryz.prog 66 #[.slice ao len cap] w fun e w' => ∃ v, e = .returned (.tuple #[v, .int .i64 (rd zs).2]) ∧ OwnI w' w.heap.size v (rd zs).1 ∧ Below w.heap.size w w' :=
  read_core ao len cap zs w hc h _ _ _ (hide rfl) _ (hide rfl)

end Go.Proofs.YtdldpdllhnpdaaaGreat.Clep
