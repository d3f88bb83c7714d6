/- Files that all stand on one level: what is over, what is picked, what is left behind a merge. No conditions. -/
import Derived.Test.YtcbphalhjajapaaHAfter
import Derived.Test.YtcbphalhjajapaaHRw
namespace Go.Proofs.Ytcbphalhjajapaa.Clep
open Go.RowKit
set_option linter.unusedVariables false
set_option maxRecDepth 10000
set_option linter.unusedSimpArgs false

/-- The items of the first i files. -/
def totS (l : List He) (i : Nat) : Int := ((l.map He.M).take i).sum
theorem totS_more {l : List He} {i : Nat} {x : He} (h : l[i]? = some x) : totS l (i + 1) = totS l i + x.M := by
  unfold totS
  rw [List.take_add_one, List.getElem?_map, h]
  simp
theorem totS_snoc (l : List He) (x : He) : totS (l ++ [x]) (l.length + 1) = totS l l.length + x.M := by
  unfold totS
  rw [List.map_append, List.take_of_length_le (by simp), List.take_of_length_le (by simp)]
  simp
theorem totS_range {l : List He} (h : ∀ x ∈ l, 0 ≤ x.M ∧ x.M ≤ 2000) : ∀ i, 0 ≤ totS l i ∧ totS l i ≤ 2000 * i
  | 0 => by simp [totS]
  | i + 1 => by
    have ih := totS_range h i
    cases hx : l[i]? with
    | none =>
      have e : totS l (i + 1) = totS l i := by unfold totS; rw [List.take_add_one, List.getElem?_map, hx]; simp
      rw [e]; omega
    | some x => rw [totS_more hx]; have := h x (List.mem_of_getElem? hx); omega
theorem ml_all (l : List He) : (List.range l.length).map (ml l) = l.map He.M := by
  apply List.ext_getElem?
  intro i
  by_cases hi : i < l.length
  · rw [List.getElem?_map, List.getElem?_range hi, List.getElem?_map, List.getElem?_eq_getElem hi]
    simp only [Option.map_some]
    rw [ml_of (List.getElem?_eq_getElem hi)]
  · rw [List.getElem?_eq_none (by simp; omega), List.getElem?_eq_none (by simp; omega)]
theorem uni_pos {l : List He} {q : Nat} (h : ∀ x ∈ l, x.L = (q : Int)) : pos l q = List.range l.length ∧ ∀ k : Nat, k ≠ q → pos l k = [] := by
  have hv : ∀ i ∈ List.range l.length, lv l i = (q : Int) := fun i hi => by
    have hi := List.mem_range.1 hi
    rw [lv_of (List.getElem?_eq_getElem hi)]
    exact h _ (List.getElem_mem hi)
  unfold pos posN
  refine ⟨List.filter_eq_self.2 (fun i hi => by rw [hv i hi]; simp), fun k hk => List.filter_eq_nil_iff.2 (fun i hi => by rw [hv i hi]; simp; omega)⟩
theorem uni_sum {l : List He} {q : Nat} (h : ∀ x ∈ l, x.L = (q : Int)) : sumM l q = totS l l.length ∧ ∀ k : Nat, k ≠ q → sumM l k = 0 := by
  obtain ⟨h1, h2⟩ := uni_pos h
  unfold sumM
  refine ⟨?_, fun k hk => by rw [h2 k hk]; rfl⟩
  rw [h1]
  unfold sumP totS
  rw [ml_all, List.take_of_length_le (by simp)]
theorem uni_ovr {l : List He} {q : Nat} (h : ∀ x ∈ l, x.L = (q : Int)) (k : Nat) (hk : k ≠ q) : ovr l k = false := by
  obtain ⟨h1, h2⟩ := uni_pos h
  obtain ⟨h3, h4⟩ := uni_sum h
  unfold ovr
  by_cases e0 : k = 0
  · subst e0; rw [if_pos rfl, h2 0 hk]; rfl
  · rw [if_neg e0]
    by_cases e1 : k = 1
    · subst e1; rw [if_pos rfl, h4 1 hk]; rfl
    · rw [if_neg e1]
      by_cases e2 : k = 2
      · subst e2; rw [if_pos rfl, h4 2 hk]; rfl
      · rw [if_neg e2]
theorem uni_low {l : List He} {q : Nat} (h : ∀ x ∈ l, x.L = (q : Int)) (hq : q ≤ 2) : low l = if ovr l q = true then some q else none := by
  unfold low
  rcases (show q = 0 ∨ q = 1 ∨ q = 2 by omega) with rfl | rfl | rfl
  · rw [uni_ovr h 1 (by omega), uni_ovr h 2 (by omega)]; rfl
  · rw [uni_ovr h 0 (by omega), uni_ovr h 2 (by omega)]; rfl
  · rw [uni_ovr h 0 (by omega), uni_ovr h 1 (by omega)]; rfl
theorem zn_range_sorted (n : Nat) : (zn (List.range n)).mergeSort (fun x y => decide (x ≤ y)) = zn (List.range n) := by
  refine List.mergeSort_of_pairwise ?_
  unfold zn
  rw [List.pairwise_map]
  exact List.pairwise_lt_range.imp (fun {a b} h => decide_eq_true (by omega))
theorem uni_pick {l : List He} {q : Nat} (h : ∀ x ∈ l, x.L = (q : Int)) (hq : 0 < q → l.length = 1) (hl : low l = some q) : pickE l = (l.map He.N, (q : Int) + 1, true) := by
  unfold pickE
  rw [hl]
  obtain ⟨h1, h2⟩ := uni_pos h
  have hd : downP l q = List.range l.length := by
    unfold downP
    rw [h1]
    split
    · rw [hq (by assumption)]; rfl
    · rfl
  have hz : plZ l q = zn (List.range l.length) := by
    unfold plZ
    rw [hd, h2 (q + 1) (by omega)]
    show (zn (List.range l.length) ++ []).mergeSort _ = _
    rw [List.append_nil, zn_range_sorted]
  have hn : numZ l (plZ l q) = l.map He.N := by
    rw [hz]
    unfold numZ zn
    rw [List.map_map]
    apply List.ext_getElem?
    intro i
    by_cases hi : i < l.length
    · rw [List.getElem?_map, List.getElem?_range hi, List.getElem?_map, List.getElem?_eq_getElem hi]
      simp only [Option.map_some]
      show some (nm l ((i : Int)).toNat) = _
      rw [show ((i : Int)).toNat = i from by omega, nm_of (List.getElem?_eq_getElem hi)]
    · rw [List.getElem?_eq_none (by simp; omega), List.getElem?_eq_none (by simp; omega)]
  show (numZ l (plZ l q), (q : Int) + 1, true) = _
  rw [hn]
theorem stay_none (l : List He) : stayA l (l.map He.N) = [] := by
  unfold stayA
  rw [List.filter_eq_nil_iff.2 (fun x hx => by
    have : (l.map He.N).contains x.N = true := List.contains_iff_mem.2 (List.mem_map.2 ⟨x, hx, rfl⟩)
    rw [this]; simp)]
  rfl
/-- What the statement holds between two merges: files of one level, of numbers that are all unlike. -/
structure En (W : World) (la : Option Addr) (lc : Nat) (l : List He) (q : Nat) (T : Int) : Prop where
  h : Hs W la l.length lc l
  s : ∀ x ∈ l, x.sm
  L : ∀ x ∈ l, x.L = (q : Int)
  N : (l.map He.N).Pairwise (· ≠ ·)
  M : ∀ x ∈ l, 0 ≤ x.M ∧ x.M ≤ 2000
  T : totS l l.length = T
  n : l.length ≤ 30
  q1 : 0 < q → l.length = 1
theorem En.keep {W W' : World} {la : Option Addr} {lc : Nat} {l : List He} {q : Nat} {T : Int} (h : En W la lc l q T) (hb : Below W.heap.size W W') : En W' la lc l q T := ⟨h.h.below hb (Nat.le_refl _), h.s, h.L, h.N, h.M, h.T, h.n, h.q1⟩
theorem En.mild {W : World} {la : Option Addr} {lc : Nat} {l : List He} {q : Nat} {T : Int} (h : En W la lc l q T) : Mild l := ⟨by have := h.n; omega, fun x hx => by have := h.M x hx; omega⟩
theorem num_same {l : List He} (h : (l.map He.N).Pairwise (· ≠ ·)) {i k : Nat} {x : He} {z : Int} (hx : l[i]? = some x) (hz : (l.map He.N)[k]? = some z) : (z == x.N) = decide (k = i) := by
  have hi : (l.map He.N)[i]? = some x.N := by rw [List.getElem?_map, hx]; rfl
  have hil := (List.getElem?_eq_some_iff.1 hi).1
  have hkl := (List.getElem?_eq_some_iff.1 hz).1
  have h1 := (List.getElem?_eq_some_iff.1 hi).2
  have h2 := (List.getElem?_eq_some_iff.1 hz).2
  by_cases e : k = i
  · subst e
    rw [hi] at hz
    rw [← Option.some.inj hz]
    simp
  · rw [decide_eq_false e]
    have hne : z ≠ x.N := by
      rw [List.pairwise_iff_getElem] at h
      rw [← h1, ← h2]
      rcases Nat.lt_or_gt_of_ne e with h3 | h3
      · exact h k i hkl hil h3
      · exact fun e2 => h i k hil hkl h3 e2.symm
    simpa using hne

end Go.Proofs.Ytcbphalhjajapaa.Clep
