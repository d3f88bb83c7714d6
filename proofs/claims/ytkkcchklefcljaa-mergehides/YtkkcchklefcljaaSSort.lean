/- What the library's sort does to a row of items that the call made, by state.compare: the same items, in order. Conditions: at most 2^40 items. -/
import Derived.Test.YtkkcchklefcljaaSCmp
namespace Go.Proofs.Ytkkcchklefcljaa.Clep
open Go.RowKit
set_option linter.unusedVariables false
set_option maxRecDepth 10000

theorem perm_sorted [Inhabited It] {l : List It} {d' : Array It} (hp : Go.Sort.PermIn 0 l.toArray.size l.toArray d') (hs : Go.Sort.SortedIn (ltOf cmpI) 0 l.toArray.size d') :
    d'.toList.Perm l ∧ d'.toList.Pairwise (fun a b => ltOf cmpI b a = false) ∧ d'.toList.length = l.length := by
  obtain ⟨hsz, _, hperm⟩ := hp
  have e1 : d'.extract 0 l.toArray.size = d' := by rw [← hsz]; exact Array.extract_size
  rw [e1, Array.extract_size] at hperm
  refine ⟨by simpa using hperm, ?_, by simpa using hsz⟩
  rw [List.pairwise_iff_getElem]
  intro i j hi hj hij
  have hi' : i < d'.size := by simpa using hi
  have hj' : j < d'.size := by simpa using hj
  have := hs i j (Nat.zero_le _) hij (by omega)
  rw [getElem!_pos d' j hj', getElem!_pos d' i hi'] at this
  simpa using this
theorem flat_cvs [Inhabited It] (l : List It) : Go.Sort.flatK cv 5 l.toArray = (cvs l).toArray := by
  refine Go.Sort.ext_get! (by simp [cvs_len]) fun t ht => ?_
  have ht' : t < l.length * 5 := by simpa using ht
  rw [Go.Sort.get_flatK _ _ _ _ (by simpa using ht')]
  have hx : l[t / 5]? = some l[t / 5] := List.getElem?_eq_getElem (by omega)
  have h := cvs_get l (t / 5) (t % 5) _ hx (by omega)
  rw [show t / 5 * 5 + t % 5 = t from by omega] at h
  have e0 : l.toArray[t / 5]! = l[t / 5] := by rw [getElem!_pos _ _ (by simp; omega)]; simp
  rw [e0, getElem!_def, getElem!_def, List.getElem?_toArray, h]
theorem heap_sorted {w : World} {g n : Nat} {os : Array Obj} {cur : Array Value} {e : TypeId} {fr : Nat × Nat} (d : Array Value) (hb : w.heap[g]? = some (.cells cur e fr)) :
    (Go.Sort.grow (Go.Sort.putRow id (Go.Sort.ahead w n) g 0 d) os).heap[g]? = some (.cells (Go.Sort.putCells id 0 d cur) e fr) := by
  have hg : g < w.heap.size := (Array.getElem?_eq_some_iff.1 hb).1
  rw [Go.Sort.heap_grow_old _ _ (by simpa using hg)]
  simp [Go.Sort.putRow, Go.Sort.mapBlock, Go.Sort.ahead, Array.getElem?_modify, hb, Go.Sort.onCells]
theorem take_put (cur : Array Value) (ts : List Value) (h : ts.length ≤ cur.size) : (Go.Sort.putCells id 0 ts.toArray cur).toList.take ts.length = ts := by
  apply List.ext_getElem?
  intro j
  by_cases hj : j < ts.length
  · rw [List.getElem?_take_of_lt hj, Array.getElem?_toList]
    simp [Go.Sort.putCells, hj, show j < cur.size by omega]
  · rw [List.getElem?_take_eq_none (by omega), List.getElem?_eq_none (by omega)]

theorem sort_any (v : Value) (B : Nat) (l : List It) (w : World) (h : OwnI w B v l) (hm : l.length ≤ 1099511627776) :
    Calls Try.prog 45 #[v, .func (.func 46) #[] #[]] w fun e w' => e = .returned (.tuple #[]) ∧
      ∃ l' : List It, l'.Perm l ∧ l'.Pairwise (fun a b => ltOf cmpI b a = false) ∧ l'.length = l.length ∧ OwnI w' B v l' ∧ w.grownBy w' v.ownBlock := by
  haveI : Inhabited It := ⟨⟨0, 0, 0, 0, 0⟩⟩
  by_cases h0 : l = []
  · subst h0
    obtain ⟨p, cap, rfl⟩ : ∃ p cap, v = .slice p 0 cap := by
      obtain ⟨_, ⟨rfl, _⟩ | ⟨g, cap, cur, rfl, _⟩⟩ := h
      · exact ⟨none, 0, rfl⟩
      · exact ⟨_, cap, rfl⟩
    refine (AnyF.slices_SortFunc_none Try.sortF p cap (.func (.func 46) #[] #[]) w).mono ?_
    rintro e w' ⟨rfl, rfl⟩
    exact ⟨rfl, [], .refl _, .nil, rfl, h, gb_below (Below.refl _ _) _⟩
  · have hl0 : 0 < l.length := List.length_pos_iff.2 h0
    obtain ⟨hl, ⟨rfl, hn⟩ | ⟨g, cap, cur, rfl, hg, hh, hnc, hcm, hcs, hx⟩⟩ := h
    · omega
    have hgs : g < w.heap.size := (Array.getElem?_eq_some_iff.1 hh).1
    have hH : Go.Sort.HoldsK cv 5 w g 0 l.toArray := by
      unfold Go.Sort.HoldsK
      rw [flat_cvs]
      intro j hj
      have hj' : j < (cvs l).length := by simpa using hj
      refine ⟨?_, by simp [World.frozen?, hh]⟩
      have h1 : (cur.toList.take (l.length * 5))[j]? = (cvs l)[j]? := by rw [hx]
      rw [List.getElem?_take_of_lt (by rw [cvs_len] at hj'; exact hj')] at h1
      simp only [World.cell?, hh, Nat.zero_add]
      simp only [Option.isSome_none, Bool.false_eq_true, if_false]
      rw [← Array.getElem?_toList, h1]
      simp [hj']
    have eg : ∀ args w, (callFunc 46 args).run Try.prog w = .ok (.enter 46 args) w := enters_of Try.func46 (by kernel_rfl) rfl
    have hcon := AnyQ.slices_SortFunc Try.sortF 5 Try.isAgg36 Try.sizeOf36 cv (fun _ => rfl)
      (fun x v hv => by simp only [cv, List.mem_cons, List.not_mem_nil, or_false] at hv; rcases hv with rfl | rfl | rfl | rfl | rfl <;> rfl)
      cmpI cmp_swo 46 #[] g 0 cap l.toArray w eg (compare_lays g 0 _ w) hH hgs (by simp; omega)
    rw [show l.toArray.size = l.length from by simp] at hcon
    refine hcon.mono ?_
    rintro e w' ⟨rfl, d', n, os, hp, hs, rfl⟩
    obtain ⟨p1, p2, p3⟩ := perm_sorted (by simpa using hp) (by simpa using hs)
    have e1 : Go.Proofs.sortWorldK cv 5 w g 0 n d' os = Go.Sort.grow (Go.Sort.putRow id (Go.Sort.ahead w n) g 0 (cvs d'.toList).toArray) os := by
      unfold Go.Proofs.sortWorldK Go.Sort.putRowK
      rw [← flat_cvs]
    refine ⟨rfl, d'.toList, p1, p2, p3, ?_, ?_⟩
    · rw [e1]
      refine ⟨by rw [cvs_len], .inr ⟨g, cap, _, by rw [p3], hg, heap_sorted _ hh, by omega, hcm, by simp [Go.Sort.putCells, hcs], ?_⟩⟩
      rw [show d'.toList.length * 5 = (cvs d'.toList).length from by rw [cvs_len]]
      exact take_put cur _ (by rw [cvs_len, hcs, p3]; exact Nat.mul_le_mul_right _ hnc)
    · rw [e1]
      refine ⟨rfl, rfl, rfl, by simp, fun k hk hne => ?_⟩
      rw [Go.Sort.heap_grow_old _ _ (by simpa using hk)]
      have : g ≠ k := fun e => hne (by simp [Value.ownBlock, e])
      simp [Go.Sort.putRow, Go.Sort.mapBlock, Go.Sort.ahead, Array.getElem?_modify, this]

end Go.Proofs.Ytkkcchklefcljaa.Clep
