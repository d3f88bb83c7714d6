/- Between the steps of the document's own Apply: what its blocks hold, what it returns. No conditions. -/
import Derived.Test.YtgopcaemgcnapaaEBlk
import Derived.Deep.RegionLaw
namespace Go.Proofs.Ytgopcaemgcnapaa.Clep
open Go.RowKit
set_option linter.unusedVariables false
set_option maxRecDepth 10000

theorem fhpS (W : World) (o : Obj) (k : Nat) (hk : k = W.heap.size) : (W.alloc o).heap[k]? = some o := by
  subst hk
  show (W.heap.push o)[W.heap.size]? = _
  simp

/-- Between the steps of Apply: the Edit in its block, the View that is made in its own, its files a row of Apply's own. -/
structure ASt (w wr : World) (eb ob : Array Value) (v : Value) (cur : List Fi) : Prop where
  e : Ek wr (w.heap.size + 1) eb 31
  o : Ek wr (w.heap.size + 1 + 1 + 1) ob 26
  z : Ek wr (w.heap.size + 1 + 1) #[.int .i64 0, .slice none 0 0, .int .u64 0, .int .u64 0, .int .u64 0, .int .u64 0] 26
  own : OwnF wr (w.heap.size + 4) v cur
  bel : Below w.heap.size w wr
  sz : w.heap.size + 4 ≤ wr.heap.size
theorem ast_first (w w1 : World) (vb eb : Array Value) (v : Value) (cur : List Fi)
    (g1 : (((((w.alloc (.cells vb 26)).alloc (.cells eb 31)).alloc (.cells #[.int .i64 0, .slice none 0 0, .int .u64 0, .int .u64 0, .int .u64 0, .int .u64 0] 26)).alloc (.cells vb 26)).alloc (.cells #[] 29)).grownBy w1 (some (w.heap.size + 4)))
    (o1 : OwnF w1 (w.heap.size + 4) v cur) : ASt w w1 eb vb v cur := by
  refine ⟨?_, ?_, ?_, o1, ?_, ?_⟩
  · refine Ek.gb (ek_old (ek_old (ek_old ?_ _) _) _) g1 (by simp)
    have := ek_new (w.alloc (.cells vb 26)) eb 31
    simpa using this
  · refine Ek.gb (ek_old ?_ _) g1 (by simp)
    have := ek_new (((w.alloc (.cells vb 26)).alloc (.cells eb 31)).alloc (.cells #[.int .i64 0, .slice none 0 0, .int .u64 0, .int .u64 0, .int .u64 0, .int .u64 0] 26)) vb 26
    simpa using this
  · refine Ek.gb (ek_old (ek_old ?_ _) _) g1 (by simp)
    have := ek_new ((w.alloc (.cells vb 26)).alloc (.cells eb 31)) #[.int .i64 0, .slice none 0 0, .int .u64 0, .int .u64 0, .int .u64 0, .int .u64 0] 26
    simpa using this
  · exact Below.grown (by repeat (first | exact Below.refl _ _ | refine Below.alloc ?_ (by simp <;> omega) _ | refine Below.drew ?_)) g1 (by simp; omega) (fun k hk => by cases hk; omega)
  · have := g1.size
    simp at this
    omega
theorem ASt.set {w wr : World} {eb ob : Array Value} {v : Value} {cur : List Fi} (h : ASt w wr eb ob v cur) (k : Nat) (u : Value) : ASt w (wr.setCell ⟨w.heap.size + 1 + 1 + 1, k, none⟩ u) eb (ob.setIfInBounds k u) v cur := by
  have hg := fgb_set wr ⟨w.heap.size + 1 + 1 + 1, k, none⟩ u
  refine ⟨h.e.gb hg (by simp), h.o.set k u, h.z.gb hg (by simp), ownF_grown h.own hg (fun k hk => by cases hk; show w.heap.size + 1 + 1 + 1 < w.heap.size + 4; omega), ?_, ?_⟩
  · exact h.bel.grown hg (by have := h.sz; omega) (fun k hk => by cases hk; show w.heap.size ≤ w.heap.size + 1 + 1 + 1; omega)
  · have := hg.size; have := h.sz; omega
theorem ASt.drew {w wr : World} {eb ob : Array Value} {v : Value} {cur : List Fi} (h : ASt w wr eb ob v cur) : ASt w wr.drew eb ob v cur := ⟨h.e, h.o, h.z, h.own.drew, h.bel.drew, h.sz⟩
def stI (w W : World) (k : Nat) (x : Int) (u : Value) : World := if x = 0 then W else W.setCell ⟨w.heap.size + 1 + 1 + 1, k, none⟩ u
theorem ast5 {w W : World} {eb : Array Value} {lg fl ct at9 ls : Int} {v : Value} {cur : List Fi} (h : ASt w W eb #[.int .i64 lg, v, .int .u64 fl, .int .u64 ct, .int .u64 at9, .int .u64 ls] v cur) (lg' fl' ct' at9' ls' : Int) :
    ASt w (stI w (stI w (stI w (stI w (stI w W 0 lg' (.int .i64 lg')) 2 fl' (.int .u64 fl')) 3 ct' (.int .u64 ct')) 4 at9' (.int .u64 at9')) 5 ls' (.int .u64 ls')) eb #[.int .i64 (put0 lg lg'), v, .int .u64 (put0 fl fl'), .int .u64 (put0 ct ct'), .int .u64 (put0 at9 at9'), .int .u64 (put0 ls ls')] v cur := by
  have s1 : ∀ {W : World} {a b c d e : Value}, ASt w W eb #[.int .i64 lg, v, b, c, d, e] v cur → ASt w (stI w W 0 lg' (.int .i64 lg')) eb #[.int .i64 (put0 lg lg'), v, b, c, d, e] v cur := fun h => by
    unfold stI put0; split
    · exact h
    · exact h.set 0 _
  have s2 : ∀ {W : World} {a c d e : Value}, ASt w W eb #[a, v, .int .u64 fl, c, d, e] v cur → ASt w (stI w W 2 fl' (.int .u64 fl')) eb #[a, v, .int .u64 (put0 fl fl'), c, d, e] v cur := fun h => by
    unfold stI put0; split
    · exact h
    · exact h.set 2 _
  have s3 : ∀ {W : World} {a b d e : Value}, ASt w W eb #[a, v, b, .int .u64 ct, d, e] v cur → ASt w (stI w W 3 ct' (.int .u64 ct')) eb #[a, v, b, .int .u64 (put0 ct ct'), d, e] v cur := fun h => by
    unfold stI put0; split
    · exact h
    · exact h.set 3 _
  have s4 : ∀ {W : World} {a b c e : Value}, ASt w W eb #[a, v, b, c, .int .u64 at9, e] v cur → ASt w (stI w W 4 at9' (.int .u64 at9')) eb #[a, v, b, c, .int .u64 (put0 at9 at9'), e] v cur := fun h => by
    unfold stI put0; split
    · exact h
    · exact h.set 4 _
  have s5 : ∀ {W : World} {a b c d : Value}, ASt w W eb #[a, v, b, c, d, .int .u64 ls] v cur → ASt w (stI w W 5 ls' (.int .u64 ls')) eb #[a, v, b, c, d, .int .u64 (put0 ls ls')] v cur := fun h => by
    unfold stI put0; split
    · exact h
    · exact h.set 5 _
  exact s5 (s4 (s3 (s2 (s1 (a := v) h))))
theorem ASt.two {w wr W0 w2 w3 : World} {eb ob : Array Value} {v v2 : Value} {cur cur2 : List Fi} {r1 r2 : Option Nat} (h : ASt w wr eb ob v cur) (hb : Below wr.heap.size wr W0) (g1 : W0.grownBy w2 r1) (h1 : ∀ k, r1 = some k → w.heap.size + 4 ≤ k)
    (g2 : w2.grownBy w3 r2) (h2 : ∀ k, r2 = some k → w.heap.size + 4 ≤ k) (o : OwnF w3 (w.heap.size + 4) v2 cur2) : ASt w w3 eb ob v2 cur2 := by
  have n1 : ∀ k, k < w.heap.size + 4 → some k ≠ r1 := fun k hk e => by have := h1 k e.symm; omega
  have n2 : ∀ k, k < w.heap.size + 4 → some k ≠ r2 := fun k hk e => by have := h2 k e.symm; omega
  have s1 := h.sz
  have s2 := hb.size
  have s3 := g1.size
  have s4 := g2.size
  refine ⟨((h.e.below hb (by omega)).gb g1 (n1 _ (by omega))).gb g2 (n2 _ (by omega)), ((h.o.below hb (by omega)).gb g1 (n1 _ (by omega))).gb g2 (n2 _ (by omega)), ((h.z.below hb (by omega)).gb g1 (n1 _ (by omega))).gb g2 (n2 _ (by omega)), o, ?_, by omega⟩
  exact ((h.bel.trans (hb.mono (by omega))).grown g1 (by omega) (fun k hk => by have := h1 k hk; omega)).grown g2 (by omega) (fun k hk => by have := h2 k hk; omega)
theorem Ek.drew {w : World} {b : Nat} {cs : Array Value} {T : TypeId} (h : Ek w b cs T) : Ek w.drew b cs T := h
theorem bset {w W : World} {B R k : Nat} {u : Value} (h : Below B w W) (hR : B ≤ R) (hs : B ≤ W.heap.size) : Below B w (W.setCell ⟨R, k, none⟩ u) ∧ B ≤ (W.setCell ⟨R, k, none⟩ u).heap.size := by
  have hg := fgb_set W ⟨R, k, none⟩ u
  exact ⟨h.grown hg hs (fun k hk => by cases hk; exact hR), Nat.le_trans hs hg.size⟩
theorem zset {w W : World} {R : Nat} {a0 a1 a2 a3 a4 a5 : Value} {T : TypeId} (hz : Ek W R #[a0, a1, a2, a3, a4, a5] T) (hb : Below w.heap.size w W) (hR : w.heap.size ≤ R) (u0 u1 u2 u3 u4 u5 : Value) :
    Ek ((((((W.setCell ⟨R, 0, none⟩ u0).setCell ⟨R, 1, none⟩ u1).setCell ⟨R, 2, none⟩ u2).setCell ⟨R, 3, none⟩ u3).setCell ⟨R, 4, none⟩ u4).setCell ⟨R, 5, none⟩ u5) R #[u0, u1, u2, u3, u4, u5] T ∧
    Below w.heap.size w ((((((W.setCell ⟨R, 0, none⟩ u0).setCell ⟨R, 1, none⟩ u1).setCell ⟨R, 2, none⟩ u2).setCell ⟨R, 3, none⟩ u3).setCell ⟨R, 4, none⟩ u4).setCell ⟨R, 5, none⟩ u5) := by
  refine ⟨(((((hz.set 0 u0).set 1 u1).set 2 u2).set 3 u3).set 4 u4).set 5 u5, ?_⟩
  have b0 := bset (k := 0) (u := u0) hb hR hb.size
  have b1 := bset (k := 1) (u := u1) b0.1 hR b0.2
  have b2 := bset (k := 2) (u := u2) b1.1 hR b1.2
  have b3 := bset (k := 3) (u := u3) b2.1 hR b2.2
  have b4 := bset (k := 4) (u := u4) b3.1 hR b3.2
  exact (bset (k := 5) (u := u5) b4.1 hR b4.2).1
theorem apply_results {w : World} {R : Nat} {A B C D E : Int} {v : Value} {b : Bool} (h : Ek w R #[.int .i64 A, v, .int .u64 B, .int .u64 C, .int .u64 D, .int .u64 E] 26) (ts : Array Value) (h2 : ts.getD 4 undef = .pointer (some ⟨R, 0, none⟩)) (h3 : ts.getD 5 undef = .bool b) :
    (results Try.f20 ts).run Try.prog w = .ok (.tuple #[.agg #[.int .i64 A, v, .int .u64 B, .int .u64 C, .int .u64 D, .int .u64 E], .bool b]) w := by
  have c0 := h.cell (o := 0) rfl
  have c1 := h.cell (o := 1) rfl
  have c2 := h.cell (o := 2) rfl
  have c3 := h.cell (o := 3) rfl
  have c4 := h.cell (o := 4) rfl
  have c5 := h.cell (o := 5) rfl
  rw [Array.getD_eq_getD_getElem?] at h2 h3
  simp [results, Try.results20, go_sem, c0, c1, c2, c3, c4, c5, h2, h3]
def zV : Vw := ⟨0, [], 0, 0, 0, 0⟩
/-- What Apply returns. -/
def ApR (r : Option Vw) (w : World) (e : Ending) (w' : World) : Prop := (match r with
  | none => e = .returned (.tuple #[vwV none 0 0 zV, .bool false])
  | some V => ∃ a c, e = .returned (.tuple #[vwV a V.f.length c V, .bool true]) ∧ OwnF w' w.heap.size (.slice a V.f.length c) V.f ∧ Fs w' a V.f.length c V.f) ∧ Below w.heap.size w w'

end Go.Proofs.Ytgopcaemgcnapaa.Clep
