/- A View, an Edit in a block of their own; what Apply does, as Lean's own function; parts of rows of files. No conditions. -/
import Derived.Test.YtcahlmneancapaaGreatDoorFv02
import Derived.Deep.RegionLaw
import Derived.Maps.OwnSet
import Derived.Maps.OwnOps
import Derived.Maps.Views
import Derived.WalkSpells
import Derived.Test.YtcahlmneancapaaGreatDoorFv00
import Derived.Laws.AppendOwnNone
import Derived.Laws.OwnMore
namespace Go.Proofs.YtcahlmneancapaaGreatDoor.Clep
open Go.RowKit
set_option linter.unusedVariables false
set_option maxRecDepth 10000

/-- The block b holds the cells cs. -/
def Ek (w : World) (b : Nat) (cs : Array Value) (T : TypeId) : Prop := w.heap[b]? = some (.cells cs T (0, 0))
theorem Ek.cell {w : World} {b : Nat} {cs : Array Value} {T : TypeId} (h : Ek w b cs T) {o : Nat} {v : Value} (hv : cs[o]? = some v) : w.cell? ⟨b, o, none⟩ = some v := by
  simp [World.cell?, show w.heap[b]? = _ from h, hv]
theorem Ek.free {w : World} {b : Nat} {cs : Array Value} {T : TypeId} (h : Ek w b cs T) (o : Nat) : w.frozen? ⟨b, o, none⟩ = false := by
  simp [World.frozen?, show w.heap[b]? = _ from h]
theorem Ek.lt {w : World} {b : Nat} {cs : Array Value} {T : TypeId} (h : Ek w b cs T) : b < w.heap.size := (Array.getElem?_eq_some_iff.1 h).1
theorem Ek.set {w : World} {b : Nat} {cs : Array Value} {T : TypeId} (h : Ek w b cs T) (o : Nat) (v : Value) : Ek (w.setCell ⟨b, o, none⟩ v) b (cs.setIfInBounds o v) T := by
  unfold Ek at *
  simp [World.setCell, Array.getElem?_modify, h]
theorem Ek.gb {w w' : World} {row : Option Nat} {b : Nat} {cs : Array Value} {T : TypeId} (h : Ek w b cs T) (hg : w.grownBy w' row) (hne : some b ≠ row) : Ek w' b cs T := by
  unfold Ek at *
  rw [hg.block b (Array.getElem?_eq_some_iff.1 h).1 hne]; exact h
theorem Ek.below {w w' : World} {B b : Nat} {cs : Array Value} {T : TypeId} (h : Ek w b cs T) (hb : Below B w w') (hB : b < B) : Ek w' b cs T := by
  unfold Ek at *
  rw [hb.block b hB]; exact h
theorem fgb_set (w : World) (p : Addr) (u : Value) : w.grownBy (w.setCell p u) (some p.block) :=
  ⟨rfl, rfl, rfl, by simp [World.setCell], fun i hi hne => Below.heap_setCell _ _ _ _ (fun e => hne (by rw [e]))⟩
theorem ek_new (w : World) (cs : Array Value) (T : TypeId) : Ek (w.alloc (.cells cs T)) w.heap.size cs T := by
  show (w.heap.push _)[w.heap.size]? = _
  simp
theorem ek_old {w : World} {b : Nat} {cs : Array Value} {T : TypeId} (h : Ek w b cs T) (o : Obj) : Ek (w.alloc o) b cs T := by
  unfold Ek at *
  rw [Below.heap_alloc w o b (Array.getElem?_eq_some_iff.1 h).1]; exact h

theorem Fs.take {w : World} {b off n c : Nat} {l : List Fi} (h : Fs w (some ⟨b, off, none⟩) n c l) (k : Nat) (hk : k ≤ n) (c' : Nat) (hc : k ≤ c') : Fs w (some ⟨b, off, none⟩) k c' (l.take k) := by
  refine ⟨by rw [List.length_take, h.1]; omega, ⟨hc, fun e => by cases e⟩, fun x hx => h.2.2.1 x (List.mem_of_mem_take hx), fun h0 => ?_⟩
  obtain ⟨b', off', e, hcl⟩ := h.2.2.2 (by omega)
  cases e
  refine ⟨b, off, rfl, fun i f hf => hcl i f ?_⟩
  have hi : i < k := by have := (List.getElem?_eq_some_iff.1 hf).1; rw [List.length_take] at this; omega
  rwa [List.getElem?_take_of_lt hi] at hf
theorem Fs.drop {w : World} {b off n c : Nat} {l : List Fi} (h : Fs w (some ⟨b, off, none⟩) n c l) (k : Nat) (hk : k ≤ n) (c' : Nat) (hc : n - k ≤ c') : Fs w (some ⟨b, off + k * 2, none⟩) (n - k) c' (l.drop k) := by
  refine ⟨by rw [List.length_drop, h.1], ⟨hc, fun e => by cases e⟩, fun x hx => h.2.2.1 x (List.mem_of_mem_drop hx), fun h0 => ?_⟩
  obtain ⟨b', off', e, hcl⟩ := h.2.2.2 (by omega)
  cases e
  refine ⟨b, off + k * 2, rfl, fun i f hf => ?_⟩
  rw [List.getElem?_drop] at hf
  have := hcl _ _ hf
  rw [show off + k * 2 + i * 2 = off + (k + i) * 2 from by omega]
  exact this
theorem Fs.gb {w w' : World} {row : Option Nat} {ao : Option Addr} {n c : Nat} {l : List Fi} (h : Fs w ao n c l) (hg : w.grownBy w' row) (hne : ∀ a, ao = some a → some a.block ≠ row) : Fs w' ao n c l := by
  refine ⟨h.1, h.2.1, h.2.2.1, fun h0 => ?_⟩
  obtain ⟨b, off, e, hc⟩ := h.2.2.2 h0
  refine ⟨b, off, e, fun i f hf => ?_⟩
  obtain ⟨c0, c1⟩ := hc i f hf
  have hb := hg.block b (World.block_lt_of_cell? w _ c0) (by have := hne _ e; exact this)
  exact ⟨(World.cell?_of_block (w := w) (a := ⟨b, off + i * 2, none⟩) hb).trans c0, (World.cell?_of_block (w := w) (a := ⟨b, off + i * 2 + 1, none⟩) hb).trans c1⟩

/-- Without the file k. -/
def wo (l : List Fi) (k : Nat) : List Fi := l.take k ++ l.drop (k + 1)
/-- Where the number z stands. -/
def atN (l : List Fi) (z : Int) : Nat := l.findIdx (fun f => f.N == z)
/-- Drop after drop. -/
def dropN (l : List Fi) : List Int → Option (List Fi)
  | [] => some l
  | z :: r => if atN l z = l.length then none else dropN (wo l (atN l z)) r
def put0 (a b : Int) : Int := if b = 0 then a else b
def after (V : Vw) (E : Ed) (l : List Fi) : Vw := ⟨put0 V.lg E.lg, l ++ E.a, put0 V.fl E.fl, put0 V.ct E.ct, put0 V.at9 E.at9, put0 V.ls E.ls⟩
/-- Apply of 15.1. -/
def appl (V : Vw) (E : Ed) : Option Vw := match dropN V.f E.d with
  | none => none
  | some l => if vok (after V E l) = true then some (after V E l) else none
theorem dropN_end (l : List Fi) (d : List Int) (z : Int) : dropN l (d ++ [z]) = (match dropN l d with | none => none | some m => if atN m z = m.length then none else some (wo m (atN m z))) := by
  induction d generalizing l with
  | nil => simp [dropN]
  | cons y r ih =>
    show (if atN l y = l.length then none else dropN (wo l (atN l y)) (r ++ [z])) = _
    by_cases h : atN l y = l.length
    · simp [dropN, h]
    · simp only [dropN, if_neg h]
      exact ih _
theorem dropN_bad (l : List Fi) (d : List Int) (k : Nat) (h : dropN l (d.take k) = none) : dropN l d = none := by
  induction d generalizing l k with
  | nil => simpa using h
  | cons y r ih =>
    cases k with
    | zero => simp [dropN] at h
    | succ k =>
      simp only [List.take_succ_cons, dropN] at h ⊢
      by_cases e : atN l y = l.length
      · rw [if_pos e]
      · rw [if_neg e] at h ⊢; exact ih _ k h
theorem atN_here {l : List Fi} {z : Int} {k : Nat} {f : Fi} (hf : l[k]? = some f) (hz : f.N = z) (hno : (l.take k).all (fun g => !(g.N == z)) = true) : atN l z = k := by
  unfold atN
  have hk : k < l.length := (List.getElem?_eq_some_iff.1 hf).1
  have he : l[k] = f := (List.getElem?_eq_some_iff.1 hf).2
  rw [List.findIdx_eq hk]
  refine ⟨by rw [he]; simpa using hz, fun j hj => ?_⟩
  have := List.all_eq_true.mp hno l[j] (List.mem_of_getElem? (i := j) (by rw [List.getElem?_take_of_lt hj]; exact List.getElem?_eq_getElem _))
  simpa using this
theorem atN_none {l : List Fi} {z : Int} (hno : l.all (fun g => !(g.N == z)) = true) : atN l z = l.length := by
  unfold atN
  rw [List.findIdx_eq_length]
  intro x hx
  have := List.all_eq_true.mp hno x hx
  simpa using this
theorem wo_len (l : List Fi) (k : Nat) (hk : k < l.length) : (wo l k).length = l.length - 1 := by
  unfold wo; simp; omega

end Go.Proofs.YtcahlmneancapaaGreatDoor.Clep

/- Between the steps of the document's own Apply: what its blocks hold, what it returns. No conditions. -/
namespace Go.Proofs.YtcahlmneancapaaGreatDoor.Clep
open Go.RowKit
set_option linter.unusedVariables false
set_option maxRecDepth 10000

theorem fhpS (W : World) (o : Obj) (k : Nat) (hk : k = W.heap.size) : (W.alloc o).heap[k]? = some o := by
  subst hk
  show (W.heap.push o)[W.heap.size]? = _
  simp

/-- Between the steps of Apply: the Edit in its block, the View that is made in its own, its files a row of Apply's own. -/
structure ASt (w wr : World) (eb ob : Array Value) (v : Value) (cur : List Fi) : Prop where
  e : Ek wr (w.heap.size + 1) eb 34
  o : Ek wr (w.heap.size + 1 + 1 + 1) ob 31
  z : Ek wr (w.heap.size + 1 + 1) #[.int .i64 0, .slice none 0 0, .int .u64 0, .int .u64 0, .int .u64 0, .int .u64 0] 31
  own : OwnF wr (w.heap.size + 4) v cur
  bel : Below w.heap.size w wr
  sz : w.heap.size + 4 ≤ wr.heap.size
theorem ast_first (w w1 : World) (vb eb : Array Value) (v : Value) (cur : List Fi)
    (g1 : (((((w.alloc (.cells vb 31)).alloc (.cells eb 34)).alloc (.cells #[.int .i64 0, .slice none 0 0, .int .u64 0, .int .u64 0, .int .u64 0, .int .u64 0] 31)).alloc (.cells vb 31)).alloc (.cells #[] 99)).grownBy w1 (some (w.heap.size + 4)))
    (o1 : OwnF w1 (w.heap.size + 4) v cur) : ASt w w1 eb vb v cur := by
  refine ⟨?_, ?_, ?_, o1, ?_, ?_⟩
  · refine Ek.gb (ek_old (ek_old (ek_old ?_ _) _) _) g1 (by simp)
    have := ek_new (w.alloc (.cells vb 31)) eb 34
    simpa using this
  · refine Ek.gb (ek_old ?_ _) g1 (by simp)
    have := ek_new (((w.alloc (.cells vb 31)).alloc (.cells eb 34)).alloc (.cells #[.int .i64 0, .slice none 0 0, .int .u64 0, .int .u64 0, .int .u64 0, .int .u64 0] 31)) vb 31
    simpa using this
  · refine Ek.gb (ek_old (ek_old ?_ _) _) g1 (by simp)
    have := ek_new ((w.alloc (.cells vb 31)).alloc (.cells eb 34)) #[.int .i64 0, .slice none 0 0, .int .u64 0, .int .u64 0, .int .u64 0, .int .u64 0] 31
    simpa using this
  · exact Below.grown (by repeat (first | exact Below.refl _ _ | refine Below.alloc ?_ (by simp <;> omega) _ | refine Below.drew ?_)) g1 (by simp; omega) (fun k hk => by cases hk; omega)
  · have := g1.size
    simp at this
    omega
theorem ASt.set {w wr : World} {eb ob : Array Value} {v : Value} {cur : List Fi} (h : ASt w wr eb ob v cur) (k : Nat) (u : Value) : ASt w (wr.setCell ⟨w.heap.size + 1 + 1 + 1, k, none⟩ u) eb (ob.setIfInBounds k u) v cur := by
  have hg := fgb_set wr ⟨w.heap.size + 1 + 1 + 1, k, none⟩ u
  refine ⟨h.e.gb hg (by simp), h.o.set k u, h.z.gb hg (by simp), ownF_grown h.own hg (fun k hk => by cases hk; show w.heap.size + 1 + 1 + 1 < w.heap.size + 4; omega), ?_, ?_⟩
  · exact h.bel.grown hg (by have := h.sz; omega) (fun k hk => by cases hk; show w.heap.size ≤ w.heap.size + 1 + 1 + 1; omega)
  · have := hg.size; have := h.sz; omega
theorem ASt.drew {w wr : World} {eb ob : Array Value} {v : Value} {cur : List Fi} (h : ASt w wr eb ob v cur) : ASt w wr.drew eb ob v cur := ⟨h.e, h.o, h.z, h.own.drew, h.bel.drew, h.sz⟩
def stI (w W : World) (k : Nat) (x : Int) (u : Value) : World := if x = 0 then W else W.setCell ⟨w.heap.size + 1 + 1 + 1, k, none⟩ u
theorem ast5 {w W : World} {eb : Array Value} {lg fl ct at9 ls : Int} {v : Value} {cur : List Fi} (h : ASt w W eb #[.int .i64 lg, v, .int .u64 fl, .int .u64 ct, .int .u64 at9, .int .u64 ls] v cur) (lg' fl' ct' at9' ls' : Int) :
    ASt w (stI w (stI w (stI w (stI w (stI w W 0 lg' (.int .i64 lg')) 2 fl' (.int .u64 fl')) 3 ct' (.int .u64 ct')) 4 at9' (.int .u64 at9')) 5 ls' (.int .u64 ls')) eb #[.int .i64 (put0 lg lg'), v, .int .u64 (put0 fl fl'), .int .u64 (put0 ct ct'), .int .u64 (put0 at9 at9'), .int .u64 (put0 ls ls')] v cur := by
  have s1 : ∀ {W : World} {a b c d e : Value}, ASt w W eb #[.int .i64 lg, v, b, c, d, e] v cur → ASt w (stI w W 0 lg' (.int .i64 lg')) eb #[.int .i64 (put0 lg lg'), v, b, c, d, e] v cur := fun h => by
    unfold stI put0; split
    · exact h
    · exact h.set 0 _
  have s2 : ∀ {W : World} {a c d e : Value}, ASt w W eb #[a, v, .int .u64 fl, c, d, e] v cur → ASt w (stI w W 2 fl' (.int .u64 fl')) eb #[a, v, .int .u64 (put0 fl fl'), c, d, e] v cur := fun h => by
    unfold stI put0; split
    · exact h
    · exact h.set 2 _
  have s3 : ∀ {W : World} {a b d e : Value}, ASt w W eb #[a, v, b, .int .u64 ct, d, e] v cur → ASt w (stI w W 3 ct' (.int .u64 ct')) eb #[a, v, b, .int .u64 (put0 ct ct'), d, e] v cur := fun h => by
    unfold stI put0; split
    · exact h
    · exact h.set 3 _
  have s4 : ∀ {W : World} {a b c e : Value}, ASt w W eb #[a, v, b, c, .int .u64 at9, e] v cur → ASt w (stI w W 4 at9' (.int .u64 at9')) eb #[a, v, b, c, .int .u64 (put0 at9 at9'), e] v cur := fun h => by
    unfold stI put0; split
    · exact h
    · exact h.set 4 _
  have s5 : ∀ {W : World} {a b c d : Value}, ASt w W eb #[a, v, b, c, d, .int .u64 ls] v cur → ASt w (stI w W 5 ls' (.int .u64 ls')) eb #[a, v, b, c, d, .int .u64 (put0 ls ls')] v cur := fun h => by
    unfold stI put0; split
    · exact h
    · exact h.set 5 _
  exact s5 (s4 (s3 (s2 (s1 (a := v) h))))
theorem ASt.two {w wr W0 w2 w3 : World} {eb ob : Array Value} {v v2 : Value} {cur cur2 : List Fi} {r1 r2 : Option Nat} (h : ASt w wr eb ob v cur) (hb : Below wr.heap.size wr W0) (g1 : W0.grownBy w2 r1) (h1 : ∀ k, r1 = some k → w.heap.size + 4 ≤ k)
    (g2 : w2.grownBy w3 r2) (h2 : ∀ k, r2 = some k → w.heap.size + 4 ≤ k) (o : OwnF w3 (w.heap.size + 4) v2 cur2) : ASt w w3 eb ob v2 cur2 := by
  have n1 : ∀ k, k < w.heap.size + 4 → some k ≠ r1 := fun k hk e => by have := h1 k e.symm; omega
  have n2 : ∀ k, k < w.heap.size + 4 → some k ≠ r2 := fun k hk e => by have := h2 k e.symm; omega
  have s1 := h.sz
  have s2 := hb.size
  have s3 := g1.size
  have s4 := g2.size
  refine ⟨((h.e.below hb (by omega)).gb g1 (n1 _ (by omega))).gb g2 (n2 _ (by omega)), ((h.o.below hb (by omega)).gb g1 (n1 _ (by omega))).gb g2 (n2 _ (by omega)), ((h.z.below hb (by omega)).gb g1 (n1 _ (by omega))).gb g2 (n2 _ (by omega)), o, ?_, by omega⟩
  exact ((h.bel.trans (hb.mono (by omega))).grown g1 (by omega) (fun k hk => by have := h1 k hk; omega)).grown g2 (by omega) (fun k hk => by have := h2 k hk; omega)
theorem Ek.drew {w : World} {b : Nat} {cs : Array Value} {T : TypeId} (h : Ek w b cs T) : Ek w.drew b cs T := h
theorem bset {w W : World} {B R k : Nat} {u : Value} (h : Below B w W) (hR : B ≤ R) (hs : B ≤ W.heap.size) : Below B w (W.setCell ⟨R, k, none⟩ u) ∧ B ≤ (W.setCell ⟨R, k, none⟩ u).heap.size := by
  have hg := fgb_set W ⟨R, k, none⟩ u
  exact ⟨h.grown hg hs (fun k hk => by cases hk; exact hR), Nat.le_trans hs hg.size⟩
theorem zset {w W : World} {R : Nat} {a0 a1 a2 a3 a4 a5 : Value} {T : TypeId} (hz : Ek W R #[a0, a1, a2, a3, a4, a5] T) (hb : Below w.heap.size w W) (hR : w.heap.size ≤ R) (u0 u1 u2 u3 u4 u5 : Value) :
    Ek ((((((W.setCell ⟨R, 0, none⟩ u0).setCell ⟨R, 1, none⟩ u1).setCell ⟨R, 2, none⟩ u2).setCell ⟨R, 3, none⟩ u3).setCell ⟨R, 4, none⟩ u4).setCell ⟨R, 5, none⟩ u5) R #[u0, u1, u2, u3, u4, u5] T ∧
    Below w.heap.size w ((((((W.setCell ⟨R, 0, none⟩ u0).setCell ⟨R, 1, none⟩ u1).setCell ⟨R, 2, none⟩ u2).setCell ⟨R, 3, none⟩ u3).setCell ⟨R, 4, none⟩ u4).setCell ⟨R, 5, none⟩ u5) := by
  refine ⟨(((((hz.set 0 u0).set 1 u1).set 2 u2).set 3 u3).set 4 u4).set 5 u5, ?_⟩
  have b0 := bset (k := 0) (u := u0) hb hR hb.size
  have b1 := bset (k := 1) (u := u1) b0.1 hR b0.2
  have b2 := bset (k := 2) (u := u2) b1.1 hR b1.2
  have b3 := bset (k := 3) (u := u3) b2.1 hR b2.2
  have b4 := bset (k := 4) (u := u4) b3.1 hR b3.2
  exact (bset (k := 5) (u := u5) b4.1 hR b4.2).1
theorem apply_results {w : World} {R : Nat} {A B C D E : Int} {v : Value} {b : Bool} (h : Ek w R #[.int .i64 A, v, .int .u64 B, .int .u64 C, .int .u64 D, .int .u64 E] 31) (ts : Array Value) (h2 : ts.getD 4 undef = .pointer (some ⟨R, 0, none⟩)) (h3 : ts.getD 5 undef = .bool b) :
    (results Tryz.f26 ts).run Tryz.prog w = .ok (.tuple #[.agg #[.int .i64 A, v, .int .u64 B, .int .u64 C, .int .u64 D, .int .u64 E], .bool b]) w := by
  have c0 := h.cell (o := 0) rfl
  have c1 := h.cell (o := 1) rfl
  have c2 := h.cell (o := 2) rfl
  have c3 := h.cell (o := 3) rfl
  have c4 := h.cell (o := 4) rfl
  have c5 := h.cell (o := 5) rfl
  rw [Array.getD_eq_getD_getElem?] at h2 h3
  simp [results, Tryz.results26, go_sem, c0, c1, c2, c3, c4, c5, h2, h3]
def zV : Vw := ⟨0, [], 0, 0, 0, 0⟩
/-- What Apply returns. -/
def ApR (r : Option Vw) (w : World) (e : Ending) (w' : World) : Prop := (match r with
  | none => e = .returned (.tuple #[vwV none 0 0 zV, .bool false])
  | some V => ∃ a c, e = .returned (.tuple #[vwV a V.f.length c V, .bool true]) ∧ OwnF w' w.heap.size (.slice a V.f.length c) V.f ∧ Fs w' a V.f.length c V.f) ∧ Below w.heap.size w w'

end Go.Proofs.YtcahlmneancapaaGreatDoor.Clep

/- What edit.Ok, cmp.Or, slices.Clone, slices.Equal, edit.Same and edit.Whole do when called (walks over the translated program): for any Views. -/
namespace Go.Proofs.YtcahlmneancapaaGreatDoor.Clep
open Go.RowKit
set_option linter.unusedVariables false
set_option maxRecDepth 10000

theorem uz4 {w : World} {p : Nat} {x0 x1 x2 x3 : Int} {T : TypeId} (h : Ek w p #[.int .u64 x0, .int .u64 x1, .int .u64 x2, .int .u64 x3] T) : Uz w p [x0, x1, x2, x3] := by
  intro i z hz
  match i, hz with
  | 0, hz => exact h.cell (by simpa using hz)
  | 1, hz => exact h.cell (by simpa using hz)
  | 2, hz => exact h.cell (by simpa using hz)
  | 3, hz => exact h.cell (by simpa using hz)
  | k + 4, hz => simp at hz
set_option maxHeartbeats 1000000 in
theorem ok_any (fa : Option Addr) (fn fc : Nat) (V : Vw) (w : World) (h : Fs w fa fn fc V.f) (hn : fn ≤ 9223372036854775807) (hc : fc ≤ 9223372036854775807) :
    Calls Tryz.prog 35 #[vwV fa fn fc V] w fun e w' => e = .returned (.bool (vok V)) ∧ Below w.heap.size w w' := by
  have hl := h.1
  have H0 := hide (fun W (hW : Below w.heap.size w W) => h.below hW (Nat.le_refl _))
  have HV := hide (vok_parts V)
  have HFL := hide (show flk V.f = true → fn ≤ 40 from fun e => by
    unfold flk at e
    rw [Bool.and_eq_true] at e
    have := of_decide_eq_true e.1
    omega)
  generalize vok V = M at *
  obtain ⟨lg, l, fl, ct, at9, ls⟩ := V
  unfold vwV
  simp only at hl H0 HV HFL ⊢
  clear h
  have A0 := (Below.refl w.heap.size w).alloc (Nat.le_refl _) (Obj.cells #[.int .i64 lg, .slice fa fn fc, .int .u64 fl, .int .u64 ct, .int .u64 at9, .int .u64 ls] 31)
  have HB0 := hide A0
  have hK := hide (show ∀ W, Below (w.heap.size + 1) (w.alloc (Obj.cells #[.int .i64 lg, .slice fa fn fc, .int .u64 fl, .int .u64 ct, .int .u64 at9, .int .u64 ls] 31)) W → Ek W w.heap.size #[.int .i64 lg, .slice fa fn fc, .int .u64 fl, .int .u64 ct, .int .u64 at9, .int .u64 ls] 31 from fun W hW => (ek_new w _ _).below hW (by omega))
  clear A0
  obtain ⟨o1, e1⟩ : ∃ o, okN lg = o := ⟨_, rfl⟩
  obtain ⟨o2, e2⟩ : ∃ o, flk l = o := ⟨_, rfl⟩
  obtain ⟨o3, e3⟩ : ∃ o, once l = o := ⟨_, rfl⟩
  obtain ⟨o4, e4⟩ : ∃ o, [fl, ct, at9, ls].all okV = o := ⟨_, rfl⟩
  have C1 := hide (numok_any lg)
  have C2 := hide (fun W (hW : Below w.heap.size w W) => filesok_any fa fn fc l W (H0.out W hW) hn)
  have C3 := hide (fun W (hW : Below w.heap.size w W) (h40 : fn ≤ 40) => distinct_any fa fn fc l W (H0.out W hW) h40 hc)
  have C4 := hide (fun p W (hW : Uz W p [fl, ct, at9, ls]) => versok_any p 4 _ W hW rfl (by omega))
  rw [e1] at C1
  rw [e2] at C2
  rw [e3] at C3
  rw [e4] at C4
  rw [e1, e2, e3, e4] at HV
  rw [e2] at HFL
  clear e1 e2 e3 e4
  go_enter Tryz.func35, Tryz.ntmps35
  go_wp2_with fail
  generalize hwa : w.alloc (Obj.cells #[.int .i64 lg, .slice fa fn fc, .int .u64 fl, .int .u64 ct, .int .u64 at9, .int .u64 ls] 31) = wa at *
  have hsa : wa.heap.size = w.heap.size + 1 := by rw [← hwa]; simp
  clear hwa
  refine (C1.out _).mono ?_
  rintro e w1 ⟨rfl, rfl⟩
  clear C1
  cases o1 with
  | false =>
    obtain rfl : M = false := by rw [HV.out]; rfl
    clear HV
    go_wp2
    go_ret
    exact ⟨rfl, HB0.out⟩
  | true =>
    rw [Bool.true_and] at HV
    have k1 := (hK.out _ (Below.refl _ _)).cell (o := 1) rfl
    go_wp2_with fail
    refine (C2.out _ HB0.out).mono ?_
    rintro e w2 ⟨rfl, hb2⟩
    have HB2 := hide (HB0.out.trans (hb2.mono (by omega)))
    have HC2 := hide (hb2.mono (Nat.le_of_eq hsa.symm))
    clear C2 hb2 k1
    cases o2 with
    | false =>
      obtain rfl : M = false := by rw [HV.out]; rfl
      clear HV HFL
      go_wp2
      go_ret
      exact ⟨rfl, HB2.out⟩
    | true =>
      rw [Bool.true_and] at HV
      have h40 := HFL.out (by first | rfl | trivial)
      have k1 := (hK.out _ HC2.out).cell (o := 1) rfl
      clear HFL
      go_wp2_with fail
      refine (C3.out _ HB2.out h40).mono ?_
      rintro e w3 ⟨rfl, hb3⟩
      have HB3 := hide (HB2.out.trans (hb3.mono HB2.out.size))
      have HC3 := hide (HC2.out.trans (hb3.mono (by have := HC2.out.size; omega)))
      clear C3 hb3 k1
      cases o3 with
      | false =>
        obtain rfl : M = false := by rw [HV.out]; rfl
        clear HV
        go_wp2
        go_ret
        exact ⟨rfl, HB3.out⟩
      | true =>
        obtain rfl : M = o4 := by rw [HV.out]; rfl
        have k := hK.out _ HC3.out
        have k2 := k.cell (o := 2) rfl
        have k3 := k.cell (o := 3) rfl
        have k4 := k.cell (o := 4) rfl
        have k5 := k.cell (o := 5) rfl
        have HB4 := hide (HB3.out.alloc HB3.out.size (Obj.cells #[.int .u64 fl, .int .u64 ct, .int .u64 at9, .int .u64 ls] 29))
        have HU := hide (uz4 (ek_new w3 #[.int .u64 fl, .int .u64 ct, .int .u64 at9, .int .u64 ls] 29))
        clear k HV
        go_wp2_with fail
        refine (C4.out _ _ HU.out).mono ?_
        rintro e w4 ⟨rfl, rfl⟩
        clear C4 HU k2 k3 k4 k5
        go_wp2
        go_ret
        exact ⟨rfl, HB4.out⟩

def or0 : List Int → Int
  | [] => 0
  | x :: r => if x = 0 then or0 r else x
theorem or0_two (x y : Int) : or0 [x, y] = put0 y x := by
  unfold or0 put0 or0 or0
  by_cases h : x = 0 <;> by_cases h' : y = 0 <;> simp [h, h']
theorem or0_step {ns : List Int} {k : Nat} {z : Int} (h : ns[k]? = some z) : or0 (ns.drop k) = if z = 0 then or0 (ns.drop (k + 1)) else z := by
  obtain ⟨hk, rfl⟩ := List.getElem?_eq_some_iff.1 h
  rw [List.drop_eq_getElem_cons hk]
  rfl
theorem oru_any (p n : Nat) (ns : List Int) (w : World) (h : Uz w p ns) (hl : ns.length = n) (hn : n ≤ 9223372036854775807) :
    Calls Tryz.prog 81 #[.slice (some ⟨p, 0, none⟩) n n] w fun e w' => e = .returned (.int .u64 (or0 ns)) ∧ w' = w := by
  have H := hide h
  obtain ⟨M, hM⟩ : ∃ M, or0 ns = M := ⟨_, rfl⟩
  rw [hM]
  have HM := hide hM
  clear h hM
  go_enter Tryz.func81, Tryz.ntmps81
  go_wp2_with fail
  go_loop [8] (fun s => ∃ i : Nat, i ≤ n ∧ s = .int .i64 i ∧ Hid (or0 (ns.drop i) = M)) (fun s => n - (intOf s).toNat)
  case atStart => exact ⟨0, by omega, rfl, hide HM.out⟩
  case round =>
    obtain ⟨i, hi, rfl, hall⟩ := hrel
    by_cases hlt : i < n
    · obtain ⟨z, hz⟩ : ∃ z, ns[i]? = some z := ⟨_, List.getElem?_eq_getElem (by rw [hl]; exact hlt)⟩
      have hcell := H.out i z hz
      by_cases hok : z = 0
      · have HT : Hid (or0 (ns.drop (i + 1)) = M) := hide (by rw [← hall.out, or0_step hz, if_pos hok])
        have q : (z != 0) = false := by simpa using hok
        clear hz hok
        go_wp2
        go_round
        case rel => exact ⟨i + 1, by omega, by go_num, HT⟩
        case measure => simp [intOf]; omega
      · obtain rfl : M = z := by rw [← hall.out, or0_step hz, if_neg hok]
        have q : (M != 0) = true := by simpa using hok
        clear hz hok HM hall
        go_wp2
        go_ret
        exact ⟨rfl, rfl⟩
    · obtain rfl : i = n := by omega
      obtain rfl : M = 0 := by rw [← hall.out, List.drop_eq_nil_of_le (by omega)]; rfl
      clear HM hall
      go_wp2
      go_ret
      exact ⟨rfl, rfl⟩
theorem ori_any (p n : Nat) (ns : List Int) (w : World) (h : Iz w p ns) (hl : ns.length = n) (hn : n ≤ 9223372036854775807) :
    Calls Tryz.prog 80 #[.slice (some ⟨p, 0, none⟩) n n] w fun e w' => e = .returned (.int .i64 (or0 ns)) ∧ w' = w := by
  have H := hide h
  obtain ⟨M, hM⟩ : ∃ M, or0 ns = M := ⟨_, rfl⟩
  rw [hM]
  have HM := hide hM
  clear h hM
  go_enter Tryz.func80, Tryz.ntmps80
  go_wp2_with fail
  go_loop [8] (fun s => ∃ i : Nat, i ≤ n ∧ s = .int .i64 i ∧ Hid (or0 (ns.drop i) = M)) (fun s => n - (intOf s).toNat)
  case atStart => exact ⟨0, by omega, rfl, hide HM.out⟩
  case round =>
    obtain ⟨i, hi, rfl, hall⟩ := hrel
    by_cases hlt : i < n
    · obtain ⟨z, hz⟩ : ∃ z, ns[i]? = some z := ⟨_, List.getElem?_eq_getElem (by rw [hl]; exact hlt)⟩
      have hcell := H.out i z hz
      by_cases hok : z = 0
      · have HT : Hid (or0 (ns.drop (i + 1)) = M) := hide (by rw [← hall.out, or0_step hz, if_pos hok])
        have q : (z != 0) = false := by simpa using hok
        clear hz hok
        go_wp2
        go_round
        case rel => exact ⟨i + 1, by omega, by go_num, HT⟩
        case measure => simp [intOf]; omega
      · obtain rfl : M = z := by rw [← hall.out, or0_step hz, if_neg hok]
        have q : (M != 0) = true := by simpa using hok
        clear hz hok HM hall
        go_wp2
        go_ret
        exact ⟨rfl, rfl⟩
    · obtain rfl : i = n := by omega
      obtain rfl : M = 0 := by rw [← hall.out, List.drop_eq_nil_of_le (by omega)]; rfl
      clear HM hall
      go_wp2
      go_ret
      exact ⟨rfl, rfl⟩

end Go.Proofs.YtcahlmneancapaaGreatDoor.Clep

/- What edit.without does when called (a walk over the translated program): for any files and any numbers, few of each. A map of counts. -/
namespace Go.Proofs.YtcahlmneancapaaGreatDoor.Clep
open Go.RowKit Go.Maps
set_option linter.unusedVariables false
set_option maxRecDepth 10000

/-- Is the number there? -/
def hasN (l : List Fi) (z : Int) : Bool := l.any (fun f => f.N == z)
/-- No number twice. -/
def ndp : List Int → Bool
  | [] => true
  | z :: r => !(r.contains z) && ndp r
/-- The files without those that go. -/
def stay (l : List Fi) (d : List Int) : List Fi := l.filter (fun f => !(d.contains f.N))
/-- What without answers. -/
def wout (l : List Fi) (d : List Int) : Option (List Fi) := if (ndp d && d.all (hasN l)) = true then some (stay l d) else none
theorem ndp_snoc (d : List Int) (z : Int) : ndp (d ++ [z]) = (ndp d && !(d.contains z)) := by
  induction d with
  | nil => simp [ndp]
  | cons y r ih =>
    by_cases e : y = z
    · subst e
      cases hy : r.contains y <;> cases hz : ndp r <;> simp_all [ndp]
    · have e1 : (y == z) = false := by simpa using e
      have e2 : (z == y) = false := by simpa using fun h => e h.symm
      cases hy : r.contains y <;> cases hz : ndp r <;> cases hc : r.contains z <;> simp_all [ndp]
theorem ndp_take {d : List Int} (h : ndp d = true) (k : Nat) : ndp (d.take k) = true := by
  induction d generalizing k with
  | nil => simp [ndp]
  | cons y r ih =>
    cases k with
    | zero => rfl
    | succ k =>
      simp only [List.take_succ_cons, ndp, Bool.and_eq_true, Bool.not_eq_true'] at h ⊢
      refine ⟨?_, ih h.2 k⟩
      rw [← Bool.not_eq_true, List.contains_iff_mem] at h ⊢
      exact fun hm => h.1 (List.mem_of_mem_take hm)
theorem take_next {α : Type} {l : List α} {k : Nat} {x : α} (h : l[k]? = some x) : l.take (k + 1) = l.take k ++ [x] := by
  rw [List.take_add_one, h]; rfl
theorem wout_twice {l : List Fi} {d : List Int} {k : Nat} {z : Int} (hz : d[k]? = some z) (hc : (d.take k).contains z = true) : wout l d = none := by
  unfold wout
  rw [if_neg]
  intro h
  rw [Bool.and_eq_true] at h
  have := ndp_take h.1 (k + 1)
  rw [take_next hz, ndp_snoc, hc] at this
  simp at this
theorem wout_gone {l : List Fi} {d : List Int} {k : Nat} {z : Int} (hz : d[k]? = some z) (hc : hasN l z = false) : wout l d = none := by
  unfold wout
  rw [if_neg]
  intro h
  rw [Bool.and_eq_true] at h
  have := List.all_eq_true.1 h.2 z (List.mem_of_getElem? hz)
  rw [hc] at this
  cases this
/-- How often the number is there. -/
def cntN (l : List Fi) (z : Int) : Nat := l.countP (fun f => f.N == z)
theorem cntN_zero (l : List Fi) (z : Int) : cntN l z = 0 ↔ hasN l z = false := by
  unfold cntN hasN
  rw [List.countP_eq_zero, List.any_eq_false]
/-- Block B is a map of the numbers ks, each with its count. -/
def Mpc (w : World) (B n : Nat) (ks : List Int) (g : Int → Int) : Prop := ∃ D : DataW Unit, w.ownsMap Tryz.prog 3 (plainElem Tryz.prog 3) B n D ∧ (∀ s : Int, Maps.has D (.int .i64 s) = ks.contains s) ∧ ∀ s : Int, D.atKey (.int .i64 s) (.lit (.int .i64 0)) = .lit (.int .i64 (g s))
theorem Mpc.kept {w w' : World} {row : Option Nat} {B n : Nat} {ks : List Int} {g : Int → Int} (h : Mpc w B n ks g) (hg : w.grownBy w' row) (hne : some B ≠ row) : Mpc w' B n ks g := by
  obtain ⟨D, ho, hD⟩ := h
  exact ⟨D, ho.kept hg hne, hD⟩
theorem Mpc.keep {w w' : World} {B n : Nat} {ks : List Int} {g : Int → Int} (h : Mpc w B n ks g) (hb : Below w.heap.size w w') : Mpc w' B n ks g := h.kept (fgb_below hb none) (by simp)
theorem mpc_new (w : World) : Mpc (w.alloc (.map #[] 0)) w.heap.size 0 [] (fun _ => 0) := ⟨.map [], World.ownsMap_made _ _ _ _, fun s => rfl, fun s => rfl⟩
theorem lawI : Keyed Tryz.prog 3 := int_keyed Tryz.underlying3
theorem zeroIn (w : World) : (zeroValue 3).run Tryz.prog w = .ok (.int .i64 0) w := by kernel_rfl
theorem i64wf {s : Int} (h : -9223372036854775808 ≤ s ∧ s ≤ 9223372036854775807) : (Lit.int .i64 s).wf = true := by
  simp only [Lit.wf, IntKind.min, IntKind.max, IntKind.signed, IntKind.bits, Bool.and_eq_true, decide_eq_true_eq, if_true]
  omega
theorem mpc_put {w' : World} {B n : Nat} {ks : List Int} {g : Int → Int} {D : DataW Unit} {z c : Int} (hh : ∀ s : Int, Maps.has D (.int .i64 s) = ks.contains s) (hD : ∀ s : Int, D.atKey (.int .i64 s) (.lit (.int .i64 0)) = .lit (.int .i64 (g s))) (hm : IsMap D) (ho : w'.ownsMap Tryz.prog 3 (plainElem Tryz.prog 3) B n (D.put (.int .i64 z) (.lit (.int .i64 c)))) {ks' : List Int} (hks : ∀ s, ks'.contains s = (ks.contains s || (z == s))) :
    Mpc w' B n ks' (fun s => if s = z then c else g s) := by
  refine ⟨_, ho, fun s => ?_, fun s => ?_⟩
  · rw [hks]
    by_cases e : s = z
    · subst e
      rw [has_put_same hm (show WideAt.IsKeyLit (.int .i64 s) from trivial)]
      simp
    · rw [has_put_other (fun h => e (by injection h)), hh s, show (z == s) = false from by simpa using fun h => e h.symm, Bool.or_false]
  · show _ = DataW.lit (.int .i64 (if s = z then c else g s))
    by_cases e : s = z
    · subst e
      rw [if_pos rfl]
      exact atKey_put_same hm (show WideAt.IsKeyLit (.int .i64 s) from trivial) _ _
    · rw [if_neg e, atKey_put_other (fun h => e (by injection h))]
      exact hD s
theorem makemap_hint (n : Int) (w : World) : (Instr.makeMap 167 (some (.int .i64 n))).run Tryz.prog w = .ok (.map (some w.heap.size)) (w.alloc (.map #[] 0)) := by
  simp [Instr.makeMap, go_sem]
theorem wpList_look_mpc {w : World} {ops : Array Oper} {rest : List Oper} {o : Oper} {a : Act} {Q : Exit → Act → World → Prop} (hgd : o.guard = none) (m x : Operand) (ho : o.op = .lookup 167 m x true) (B n : Nat) (ks : List Int) (g : Int → Int) (hm : a.eval m = .map (some B)) (h : Mpc w B n ks g) (z : Int) (hx : a.eval x = .int .i64 z) (hz : -9223372036854775808 ≤ z ∧ z ≤ 9223372036854775807) (b : Bool) (c : Int) (hb : ks.contains z = b) (hc : g z = c)
    (hK : wpList Tryz.prog ops Q rest (a.put o.dst (.tuple #[.int .i64 c, .bool b])) w) : wpList Tryz.prog ops Q (o :: rest) a w := by
  obtain ⟨D, hown, hh, hD⟩ := h
  refine wpList_lookup_own_ok_int w hgd m x _ ho 3 3 .i64 lawI Tryz.underlying167 Tryz.underlying3 (zeroIn _) B n D hm hown _ (.int .i64 z) hx (keyOf_int_mk Tryz.underlying3 (i64wf hz)) ?_
  intro c' hat hwc
  rw [hD z, hc] at hat
  injection hat with hat
  injection hat with _ hat
  subst hat
  rw [hh z, hb]
  exact hK
theorem wpList_at_mpc {w : World} {ops : Array Oper} {rest : List Oper} {o : Oper} {a : Act} {Q : Exit → Act → World → Prop} (hgd : o.guard = none) (m x : Operand) (ho : o.op = .lookup 167 m x false) (B n : Nat) (ks : List Int) (g : Int → Int) (hm : a.eval m = .map (some B)) (h : Mpc w B n ks g) (z : Int) (hx : a.eval x = .int .i64 z) (hz : -9223372036854775808 ≤ z ∧ z ≤ 9223372036854775807) (c : Int) (hc : g z = c)
    (hK : wpList Tryz.prog ops Q rest (a.put o.dst (.int .i64 c)) w) : wpList Tryz.prog ops Q (o :: rest) a w := by
  obtain ⟨D, hown, hh, hD⟩ := h
  refine wpList_lookup_own_int w hgd m x _ ho 3 3 .i64 lawI Tryz.underlying167 Tryz.underlying3 (zeroIn _) B n D hm hown _ (.int .i64 z) hx (keyOf_int_mk Tryz.underlying3 (i64wf hz)) ?_
  intro c' hat hwc
  rw [hD z, hc] at hat
  injection hat with hat
  injection hat with _ hat
  subst hat
  exact hK
theorem wpList_put_mpc {w : World} {ops : Array Oper} {rest : List Oper} {o : Oper} {a : Act} {Q : Exit → Act → World → Prop} (hgd : o.guard = none) (m x v : Operand) (ho : o.op = .mapUpdate 167 m x v) (B n : Nat) (ks : List Int) (g : Int → Int) (hm : a.eval m = .map (some B)) (h : Mpc w B n ks g) (hn : n ≤ 1000000) (z : Int) (hx : a.eval x = .int .i64 z) (hz : -9223372036854775808 ≤ z ∧ z ≤ 9223372036854775807) (c : Int) (hv : a.eval v = .int .i64 c) (hc : -9223372036854775808 ≤ c ∧ c ≤ 9223372036854775807)
    (ks' : List Int) (hks : ∀ s, ks'.contains s = (ks.contains s || (z == s))) (hK : ∀ w', Mpc w' B (n + 1) ks' (fun s => if s = z then c else g s) → w.grownBy w' (some B) → wpList Tryz.prog ops Q rest (a.put o.dst undef) w') : wpList Tryz.prog ops Q (o :: rest) a w := by
  obtain ⟨D, hown, hh, hD⟩ := h
  refine wpList_mapUpdate_own w hgd m x v _ ho 3 3 lawI Tryz.underlying167 (plainElem Tryz.prog 3) B n D hm hown (by unfold maxLen; omega) _ _ (.int .i64 z) hx hv (keyOf_int_mk Tryz.underlying3 (i64wf hz)) _ [] (plainElem_int Tryz.underlying3 (i64wf hc)) ?_
  intro w' ho' hg'
  exact hK w' (mpc_put hh hD hown.isMap ho' hks) hg'
theorem Mpc.more {w : World} {B n n' : Nat} {ks : List Int} {g g' : Int → Int} (h : Mpc w B n ks g) (hn : n ≤ n') (hg : ∀ s, g s = g' s) : Mpc w B n' ks g' := by
  obtain ⟨D, h1, h2, h3⟩ := h
  exact ⟨D, h1.mono hn, h2, fun s => by rw [h3 s, hg s]⟩
/-- What without returns. -/
def WoR (r : Option (List Fi)) (w : World) (e : Ending) (w' : World) : Prop := (match r with
  | none => e = .returned (.tuple #[.slice none 0 0, .bool false])
  | some m => ∃ v, e = .returned (.tuple #[v, .bool true]) ∧ OwnF w' w.heap.size v m) ∧ Below w.heap.size w w'
theorem snoc_contains (ks : List Int) (z s : Int) : (ks ++ [z]).contains s = (ks.contains s || (z == s)) := by
  by_cases e : z = s
  · subst e; simp
  · have e1 : (z == s) = false := by simpa using e
    have e2 : (s == z) = false := by simpa using fun h => e h.symm
    rw [List.contains_append, e1]
    simp
    exact fun h => absurd h.symm e
theorem stay_in {l : List Fi} {d : List Int} {k : Nat} {f : Fi} (hf : l[k]? = some f) (hc : d.contains f.N = true) : stay (l.take (k + 1)) d = stay (l.take k) d := by
  unfold stay
  rw [take_next hf, List.filter_append]
  simp
  simpa using hc
theorem stay_out {l : List Fi} {d : List Int} {k : Nat} {f : Fi} (hf : l[k]? = some f) (hc : d.contains f.N = false) : stay (l.take (k + 1)) d = stay (l.take k) d ++ [f] := by
  unfold stay
  rw [take_next hf, List.filter_append]
  simp
  simpa using hc
theorem cntN_next {l : List Fi} {k : Nat} {f : Fi} (hf : l[k]? = some f) (s : Int) : cntN (l.take (k + 1)) s = cntN (l.take k) s + (if f.N = s then 1 else 0) := by
  unfold cntN
  rw [take_next hf, List.countP_append]
  by_cases e : f.N = s <;> simp [e]
theorem cntN_le (l : List Fi) (s : Int) : cntN l s ≤ l.length := List.countP_le_length
def gW (l : List Fi) (d : List Int) (k : Nat) (s : Int) : Int := if d.contains s = true then (cntN (l.take k) s : Int) else 0

end Go.Proofs.YtcahlmneancapaaGreatDoor.Clep

/- An append of any bytes to a row of bytes that the call made, and a row that is written out on the spot: as one rule each. Conditions: lengths of at most 2^46. -/
namespace Go.Proofs.YtcahlmneancapaaGreatDoor.Clep
open Go.RowKit
set_option linter.unusedVariables false
set_option maxRecDepth 10000

theorem wpList_append_bytes {w : World} {ops : Array Oper} {rest : List Oper} {o : Oper} {a : Act} {Q : Exit → Act → World → Prop} (hgd : o.guard = none) (s x : Operand)
    (ho : o.op = .call { callee := .builtin .append, args := #[s, x], argTypes := #[44, 44] })
    (base : Nat) (v : Value) (xs : List Int) (hs : a.eval s = v) (hown : Own w base v xs) (ao : Option Addr) (len cap : Nat) (ys : List Int) (hx : a.eval x = .slice ao len cap) (hb : Bs w ao len cap ys)
    (hlen : xs.length + len ≤ 70368744177664) (hbase : base ≤ w.heap.size)
    (h : ∀ v' w', Own w' base v' (xs ++ ys) → Below base w w' → wpList Tryz.prog ops Q rest (a.put o.dst v') w') : wpList Tryz.prog ops Q (o :: rest) a w := by
  obtain ⟨i0, hi, hz0, hz1, hz2⟩ := info_parts info5
  cases ao with
  | none =>
    obtain ⟨rfl, rfl⟩ := hb.2.1.2 rfl
    have hy : ys = [] := List.eq_nil_of_length_eq_zero hb.1
    subst hy
    exact wpList_append_own_none hgd s x 44 ho base 5 i0 1 Tryz.underlying44 hi v xs.length (bv xs) hs hown hx (h v w (by rwa [List.append_nil]) (Below.refl _ _))
  | some ad =>
    refine wpList_append_own _ hgd s x 44 ho base 5 i0 (.int .u8 0) 1 1 Tryz.underlying44 hi hz0 hz1 hz2 rfl (by decide) v xs.length (bv xs) hs hown ad len cap (bv ys) hx (by rw [bv_len, hb.1]; omega) (bs_cells hb ad rfl) (bv_one ys)
      (by unfold maxLen; omega) (by omega) hbase ?_
    intro v' w' h1 h2 _
    refine h v' w' ?_ ((Below.refl _ _).grown h2 hbase (fun k hk => (World.ownsRow.lt hown k hk).1))
    unfold Own
    rw [List.length_append, hb.1, show bv (xs ++ ys) = bv xs ++ bv ys from by simp [bv]]
    exact h1

/-- A row of bytes that was written out on the spot. -/
theorem own_lit (w : World) (zs : List Int) (B : Nat) (hB : B ≤ w.heap.size) (arr : Array Value) (ha : arr = (bv zs).toArray) (L : Nat) (hL : zs.length = L) (hm : L ≤ 70368744177664) : Own (w.alloc (.cells arr 5)) B (.slice (some ⟨w.heap.size, 0, none⟩) L L) zs := by
  subst ha hL
  have := World.ownsRow_lit (base := B) (e := 5) (size := 1) w (bv zs).toArray zs.length hB (by unfold maxLen; omega) (by simp [bv])
  simpa [Own] using this

theorem own_keep {w w' : World} {B : Nat} {v : Value} {zs : List Int} (h : Own w B v zs) (hb : Below w.heap.size w w') : Own w' B v zs := by
  obtain ⟨hl, ⟨rfl, hn⟩ | ⟨g, cap, cur, rfl, hg, hh, hnc, hcm, hcs, hx⟩⟩ := h
  · exact ⟨hl, .inl ⟨rfl, hn⟩⟩
  · refine ⟨hl, .inr ⟨g, cap, cur, rfl, hg, ?_, hnc, hcm, hcs, hx⟩⟩
    rw [hb.block g (Array.getElem?_eq_some_iff.1 hh).1]
    exact hh
theorem own_base {w : World} {B C : Nat} {v : Value} {zs : List Int} (h : Own w B v zs) (hc : C ≤ B) : Own w C v zs := by
  obtain ⟨hl, ⟨rfl, hn⟩ | ⟨g, cap, cur, rfl, hg, hh, hnc, hcm, hcs, hx⟩⟩ := h
  · exact ⟨hl, .inl ⟨rfl, hn⟩⟩
  · exact ⟨hl, .inr ⟨g, cap, cur, rfl, Nat.le_trans hc hg, hh, hnc, hcm, hcs, hx⟩⟩

end Go.Proofs.YtcahlmneancapaaGreatDoor.Clep
