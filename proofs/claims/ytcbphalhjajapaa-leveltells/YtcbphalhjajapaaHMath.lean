/- Files as Lean's own structure; which levels are over, which files go down: as Lean's own functions. No conditions. -/
import Derived.Test.YtcbphalhjajapaaBase
import Derived.Lib.BytesEntry
namespace Go.Proofs.Ytcbphalhjajapaa.Clep
open Go.RowKit
set_option linter.unusedVariables false
set_option maxRecDepth 10000
set_option linter.unusedSimpArgs false

/-- A file, and where its keys lie. -/
structure He where
  N : Int
  L : Int
  fa : Option Addr
  fc : Nat
  fz : List Int
  ga : Option Addr
  gc : Nat
  gz : List Int
  M : Int
def He.cs (x : He) : List Value := [.int .i64 x.N, .int .i64 x.L, .slice x.fa x.fz.length x.fc, .slice x.ga x.gz.length x.gc, .int .i64 x.M]
def He.v (x : He) : Value := .agg #[.int .i64 x.N, .int .i64 x.L, .slice x.fa x.fz.length x.fc, .slice x.ga x.gz.length x.gc, .int .i64 x.M]
/-- Is the one ahead of the other? -/
def ltB (xs ys : List Int) : Bool := Op.bytesLess (ub xs) (ub ys)
/-- Touch of 17.1. -/
def tch (x y : He) : Bool := !(x.M == 0) && (!(y.M == 0) && (!(ltB x.gz y.fz) && !(ltB y.gz x.fz)))
def lv (l : List He) (i : Nat) : Int := (l.map He.L).getD i (-1)
def ml (l : List He) (i : Nat) : Int := (l.map He.M).getD i 0
def nm (l : List He) (i : Nat) : Int := (l.map He.N).getD i 0
/-- Where files of the level k stand, of the first n. -/
def posN (l : List He) (k n : Nat) : List Nat := (List.range n).filter fun i => lv l i == (k : Int)
def pos (l : List He) (k : Nat) : List Nat := posN l k l.length
def zn (ps : List Nat) : List Int := ps.map fun (i : Nat) => (i : Int)
def sumP (l : List He) (ps : List Nat) : Int := (ps.map (ml l)).sum
def sumM (l : List He) (k : Nat) : Int := sumP l (pos l k)
/-- Is the level k over? -/
def ovr (l : List He) (k : Nat) : Bool := if k = 0 then decide (4 ≤ (pos l 0).length) else if k = 1 then decide (200 < sumM l 1) else if k = 2 then decide (2000 < sumM l 2) else false
def low (l : List He) : Option Nat := if ovr l 0 then some 0 else if ovr l 1 then some 1 else if ovr l 2 then some 2 else none
def downP (l : List He) (k : Nat) : List Nat := if 0 < k then (pos l k).take 1 else pos l k
def tchAt (l : List He) (i j : Nat) : Bool := match l[i]?, l[j]? with
  | some x, some y => tch x y
  | _, _ => false
def touP (l : List He) (these : List Nat) (ps : List Nat) : List Nat := ps.filter fun i => these.any fun j => tchAt l i j
/-- Where those stand that go down from the level k. -/
def plZ (l : List He) (k : Nat) : List Int := (zn (downP l k) ++ zn (touP l (downP l k) (pos l (k + 1)))).mergeSort fun x y => decide (x ≤ y)
def numZ (l : List He) (zs : List Int) : List Int := zs.map fun z => nm l z.toNat
def pickE (l : List He) : List Int × Int × Bool := match low l with
  | none => ([], 0, false)
  | some k => (numZ l (plZ l k), (k : Int) + 1, true)
def overE (l : List He) : List Int := zn ((List.range 4).filter (ovr l))
/-- Few files, of few items each. -/
def Mild (l : List He) : Prop := l.length ≤ 1000 ∧ ∀ x ∈ l, 0 ≤ x.M ∧ x.M ≤ 1000000

theorem posN_succ (l : List He) (k n : Nat) : posN l k (n + 1) = posN l k n ++ (if lv l n = (k : Int) then [n] else []) := by
  unfold posN
  rw [List.range_succ, List.filter_append]
  congr 1
  by_cases h : lv l n = (k : Int) <;> simp [h]
theorem pos_lt {l : List He} {k n i : Nat} (h : i ∈ posN l k n) : i < n := List.mem_range.1 (List.mem_filter.1 h).1
theorem pos_lv {l : List He} {k n i : Nat} (h : i ∈ posN l k n) : lv l i = (k : Int) := by simpa using (List.mem_filter.1 h).2
theorem lv_of {l : List He} {i : Nat} {x : He} (h : l[i]? = some x) : lv l i = x.L := by simp [lv, List.getD, h]
theorem ml_of {l : List He} {i : Nat} {x : He} (h : l[i]? = some x) : ml l i = x.M := by simp [ml, List.getD, h]
theorem nm_of {l : List He} {i : Nat} {x : He} (h : l[i]? = some x) : nm l i = x.N := by simp [nm, List.getD, h]
theorem zn_len (ps : List Nat) : (zn ps).length = ps.length := by simp [zn]
theorem zn_app (a b : List Nat) : zn (a ++ b) = zn a ++ zn b := by simp [zn]
theorem posN_len (l : List He) (k n : Nat) : (posN l k n).length ≤ n := by
  have := List.length_filter_le (fun i => lv l i == (k : Int)) (List.range n)
  rwa [List.length_range] at this
theorem mild_ml {l : List He} (h : Mild l) (i : Nat) : 0 ≤ ml l i ∧ ml l i ≤ 1000000 := by
  unfold ml
  rw [List.getD_eq_getElem?_getD, List.getElem?_map]
  cases hx : l[i]? with
  | none => simp
  | some x => exact h.2 x (List.mem_of_getElem? hx)
theorem sumP_snoc (l : List He) (ps : List Nat) (i : Nat) : sumP l (ps ++ [i]) = sumP l ps + ml l i := by simp [sumP]
theorem sumP_range {l : List He} (h : Mild l) (ps : List Nat) : 0 ≤ sumP l ps ∧ sumP l ps ≤ 1000000 * ps.length := by
  induction ps with
  | nil => simp [sumP]
  | cons i r ih =>
    have h1 := mild_ml h i
    have e : sumP l (i :: r) = ml l i + sumP l r := by simp [sumP]
    rw [e, List.length_cons]
    omega
theorem z_range {ps : List Nat} {n : Nat} (h : ∀ i ∈ ps, i < n) (hn : n ≤ 1000000) : ∀ z ∈ zn ps, -9223372036854775808 ≤ z ∧ z ≤ 9223372036854775807 := by
  intro z hz
  obtain ⟨i, hi, rfl⟩ := List.mem_map.1 hz
  have := h i hi
  show -9223372036854775808 ≤ (i : Int) ∧ (i : Int) ≤ 9223372036854775807
  omega

/-- Compare, over lists. -/
def cmpL (u v : List UInt8) : Int :=
  match (List.range (min u.length v.length)).find? fun i => u[i]! != v[i]! with
  | some i => if u[i]! < v[i]! then -1 else 1
  | none => if u.length < v.length then -1 else if u.length > v.length then 1 else 0
theorem cmpL_cons (a b : UInt8) (u v : List UInt8) : cmpL (a :: u) (b :: v) = if a = b then cmpL u v else if a < b then -1 else 1 := by
  unfold cmpL
  rw [List.length_cons, List.length_cons, show min (u.length + 1) (v.length + 1) = min u.length v.length + 1 from by omega, List.range_succ_eq_map, List.find?_cons]
  by_cases h : a = b
  · subst h
    rw [if_pos rfl]
    simp only [List.getElem!_cons_zero, bne_self_eq_false, Bool.false_eq_true, if_false]
    rw [List.find?_map]
    have e : ((fun i => (a :: u)[i]! != (a :: v)[i]!) ∘ Nat.succ) = fun i => u[i]! != v[i]! := by
      funext i
      simp
    rw [e]
    cases (List.range (min u.length v.length)).find? fun i => u[i]! != v[i]! with
    | none => simp
    | some i => simp
  · rw [if_neg h]
    have : ((a :: u)[0]! != (b :: v)[0]!) = true := by simpa using h
    rw [this]
    simp
theorem cmpL_less : ∀ u v : List UInt8, decide (cmpL u v < 0) = Op.bytesLess u v
  | [], [] => by simp [cmpL, Op.bytesLess]
  | [], b :: v => by simp [cmpL, Op.bytesLess]
  | a :: u, [] => by simp [cmpL, Op.bytesLess]
  | a :: u, b :: v => by
    rw [cmpL_cons]
    unfold Op.bytesLess
    by_cases h : a = b
    · subst h
      rw [if_pos rfl, cmpL_less u v]
      have : decide (a < a) = false := by simp
      simp
    · rw [if_neg h]
      by_cases h2 : a < b
      · simp [h2]
      · simp [h, h2]

end Go.Proofs.Ytcbphalhjajapaa.Clep
