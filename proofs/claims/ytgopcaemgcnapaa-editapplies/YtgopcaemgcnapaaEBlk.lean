/- A View, an Edit in a block of their own; what Apply does, as Lean's own function; parts of rows of files. No conditions. -/
import Derived.Test.YtgopcaemgcnapaaERow
namespace Go.Proofs.Ytgopcaemgcnapaa.Clep
open Go.RowKit
set_option linter.unusedVariables false
set_option maxRecDepth 10000

/-- The block b holds the cells cs. -/
def Ek (w : World) (b : Nat) (cs : Array Value) (T : TypeId) : Prop := w.heap[b]? = some (.cells cs T (0, 0))
theorem Ek.cell {w : World} {b : Nat} {cs : Array Value} {T : TypeId} (h : Ek w b cs T) {o : Nat} {v : Value} (hv : cs[o]? = some v) : w.cell? ⟨b, o, none⟩ = some v := by
  simp [World.cell?, show w.heap[b]? = _ from h, hv]
theorem Ek.free {w : World} {b : Nat} {cs : Array Value} {T : TypeId} (h : Ek w b cs T) (o : Nat) : w.frozen? ⟨b, o, none⟩ = false := by
  simp [World.frozen?, show w.heap[b]? = _ from h]
theorem Ek.lt {w : World} {b : Nat} {cs : Array Value} {T : TypeId} (h : Ek w b cs T) : b < w.heap.size := (Array.getElem?_eq_some_iff.1 h).1
theorem Ek.set {w : World} {b : Nat} {cs : Array Value} {T : TypeId} (h : Ek w b cs T) (o : Nat) (v : Value) : Ek (w.setCell ⟨b, o, none⟩ v) b (cs.setIfInBounds o v) T := by
  unfold Ek at *
  simp [World.setCell, Array.getElem?_modify, h]
theorem Ek.gb {w w' : World} {row : Option Nat} {b : Nat} {cs : Array Value} {T : TypeId} (h : Ek w b cs T) (hg : w.grownBy w' row) (hne : some b ≠ row) : Ek w' b cs T := by
  unfold Ek at *
  rw [hg.block b (Array.getElem?_eq_some_iff.1 h).1 hne]; exact h
theorem Ek.below {w w' : World} {B b : Nat} {cs : Array Value} {T : TypeId} (h : Ek w b cs T) (hb : Below B w w') (hB : b < B) : Ek w' b cs T := by
  unfold Ek at *
  rw [hb.block b hB]; exact h
theorem fgb_set (w : World) (p : Addr) (u : Value) : w.grownBy (w.setCell p u) (some p.block) :=
  ⟨rfl, rfl, rfl, by simp [World.setCell], fun i hi hne => Below.heap_setCell _ _ _ _ (fun e => hne (by rw [e]))⟩
theorem ek_new (w : World) (cs : Array Value) (T : TypeId) : Ek (w.alloc (.cells cs T)) w.heap.size cs T := by
  show (w.heap.push _)[w.heap.size]? = _
  simp
theorem ek_old {w : World} {b : Nat} {cs : Array Value} {T : TypeId} (h : Ek w b cs T) (o : Obj) : Ek (w.alloc o) b cs T := by
  unfold Ek at *
  rw [Below.heap_alloc w o b (Array.getElem?_eq_some_iff.1 h).1]; exact h

theorem Fs.take {w : World} {b off n c : Nat} {l : List Fi} (h : Fs w (some ⟨b, off, none⟩) n c l) (k : Nat) (hk : k ≤ n) (c' : Nat) (hc : k ≤ c') : Fs w (some ⟨b, off, none⟩) k c' (l.take k) := by
  refine ⟨by rw [List.length_take, h.1]; omega, ⟨hc, fun e => by cases e⟩, fun x hx => h.2.2.1 x (List.mem_of_mem_take hx), fun h0 => ?_⟩
  obtain ⟨b', off', e, hcl⟩ := h.2.2.2 (by omega)
  cases e
  refine ⟨b, off, rfl, fun i f hf => hcl i f ?_⟩
  have hi : i < k := by have := (List.getElem?_eq_some_iff.1 hf).1; rw [List.length_take] at this; omega
  rwa [List.getElem?_take_of_lt hi] at hf
theorem Fs.drop {w : World} {b off n c : Nat} {l : List Fi} (h : Fs w (some ⟨b, off, none⟩) n c l) (k : Nat) (hk : k ≤ n) (c' : Nat) (hc : n - k ≤ c') : Fs w (some ⟨b, off + k * 2, none⟩) (n - k) c' (l.drop k) := by
  refine ⟨by rw [List.length_drop, h.1], ⟨hc, fun e => by cases e⟩, fun x hx => h.2.2.1 x (List.mem_of_mem_drop hx), fun h0 => ?_⟩
  obtain ⟨b', off', e, hcl⟩ := h.2.2.2 (by omega)
  cases e
  refine ⟨b, off + k * 2, rfl, fun i f hf => ?_⟩
  rw [List.getElem?_drop] at hf
  have := hcl _ _ hf
  rw [show off + k * 2 + i * 2 = off + (k + i) * 2 from by omega]
  exact this
theorem Fs.gb {w w' : World} {row : Option Nat} {ao : Option Addr} {n c : Nat} {l : List Fi} (h : Fs w ao n c l) (hg : w.grownBy w' row) (hne : ∀ a, ao = some a → some a.block ≠ row) : Fs w' ao n c l := by
  refine ⟨h.1, h.2.1, h.2.2.1, fun h0 => ?_⟩
  obtain ⟨b, off, e, hc⟩ := h.2.2.2 h0
  refine ⟨b, off, e, fun i f hf => ?_⟩
  obtain ⟨c0, c1⟩ := hc i f hf
  have hb := hg.block b (World.block_lt_of_cell? w _ c0) (by have := hne _ e; exact this)
  exact ⟨(World.cell?_of_block (w := w) (a := ⟨b, off + i * 2, none⟩) hb).trans c0, (World.cell?_of_block (w := w) (a := ⟨b, off + i * 2 + 1, none⟩) hb).trans c1⟩

/-- Without the file k. -/
def wo (l : List Fi) (k : Nat) : List Fi := l.take k ++ l.drop (k + 1)
/-- Where the number z stands. -/
def atN (l : List Fi) (z : Int) : Nat := l.findIdx (fun f => f.N == z)
/-- Drop after drop. -/
def dropN (l : List Fi) : List Int → Option (List Fi)
  | [] => some l
  | z :: r => if atN l z = l.length then none else dropN (wo l (atN l z)) r
def put0 (a b : Int) : Int := if b = 0 then a else b
def after (V : Vw) (E : Ed) (l : List Fi) : Vw := ⟨put0 V.lg E.lg, l ++ E.a, put0 V.fl E.fl, put0 V.ct E.ct, put0 V.at9 E.at9, put0 V.ls E.ls⟩
/-- Apply of 15.1. -/
def appl (V : Vw) (E : Ed) : Option Vw := match dropN V.f E.d with
  | none => none
  | some l => if vok (after V E l) = true then some (after V E l) else none
theorem dropN_end (l : List Fi) (d : List Int) (z : Int) : dropN l (d ++ [z]) = (match dropN l d with | none => none | some m => if atN m z = m.length then none else some (wo m (atN m z))) := by
  induction d generalizing l with
  | nil => simp [dropN]
  | cons y r ih =>
    show (if atN l y = l.length then none else dropN (wo l (atN l y)) (r ++ [z])) = _
    by_cases h : atN l y = l.length
    · simp [dropN, h]
    · simp only [dropN, if_neg h]
      exact ih _
theorem dropN_bad (l : List Fi) (d : List Int) (k : Nat) (h : dropN l (d.take k) = none) : dropN l d = none := by
  induction d generalizing l k with
  | nil => simpa using h
  | cons y r ih =>
    cases k with
    | zero => simp [dropN] at h
    | succ k =>
      simp only [List.take_succ_cons, dropN] at h ⊢
      by_cases e : atN l y = l.length
      · rw [if_pos e]
      · rw [if_neg e] at h ⊢; exact ih _ k h
theorem atN_here {l : List Fi} {z : Int} {k : Nat} {f : Fi} (hf : l[k]? = some f) (hz : f.N = z) (hno : (l.take k).all (fun g => !(g.N == z)) = true) : atN l z = k := by
  unfold atN
  have hk : k < l.length := (List.getElem?_eq_some_iff.1 hf).1
  have he : l[k] = f := (List.getElem?_eq_some_iff.1 hf).2
  rw [List.findIdx_eq hk]
  refine ⟨by rw [he]; simpa using hz, fun j hj => ?_⟩
  have := List.all_eq_true.mp hno l[j] (List.mem_of_getElem? (i := j) (by rw [List.getElem?_take_of_lt hj]; exact List.getElem?_eq_getElem _))
  simpa using this
theorem atN_none {l : List Fi} {z : Int} (hno : l.all (fun g => !(g.N == z)) = true) : atN l z = l.length := by
  unfold atN
  rw [List.findIdx_eq_length]
  intro x hx
  have := List.all_eq_true.mp hno x hx
  simpa using this
theorem wo_len (l : List Fi) (k : Nat) (hk : k < l.length) : (wo l k).length = l.length - 1 := by
  unfold wo; simp; omega

end Go.Proofs.Ytgopcaemgcnapaa.Clep
