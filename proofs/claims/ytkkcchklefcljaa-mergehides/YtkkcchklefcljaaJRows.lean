/- Rows of items laid together: what the document's own Rows comes to; a row of rows in memory. No conditions. -/
import Derived.Test.YtkkcchklefcljaaSLaw
import Derived.Test.YtkkcchklefcljaaSEqual
import Derived.Deep.SlicePairs
namespace Go.Proofs.Ytkkcchklefcljaa.Clep
open Go.RowKit Go.ChangeShapes Go.WideShapes Go.Deep
set_option linter.unusedVariables false

/-- What Put makes of the items alone. -/
def putL (x : It) : List It → List It
  | [] => [x]
  | y :: r => if y.less x then y :: putL x r else if y.same x then (if x.wins y then x :: r else y :: r) else x :: y :: r
theorem putL_mem (x : It) : ∀ (l : List It) (z : It), z ∈ putL x l → z = x ∨ z ∈ l
  | [], z, h => by simp [putL] at h; exact .inl h
  | y :: r, z, h => by
    unfold putL at h
    cases hy : y.less x with
    | true =>
      rw [hy, if_pos rfl] at h
      rcases List.mem_cons.1 h with e | e
      · exact .inr (by simp [e])
      · rcases putL_mem x r z e with e | e
        · exact .inl e
        · exact .inr (by simp [e])
    | false =>
      rw [hy, if_neg Bool.false_ne_true] at h
      cases hs : y.same x with
      | true =>
        rw [hs, if_pos rfl] at h
        cases hw : x.wins y with
        | true =>
          rw [hw, if_pos rfl] at h
          rcases List.mem_cons.1 h with e | e
          · exact .inl e
          · exact .inr (by simp [e])
        | false =>
          rw [hw, if_neg Bool.false_ne_true] at h
          exact .inr h
      | false =>
        rw [hs, if_neg Bool.false_ne_true] at h
        rcases List.mem_cons.1 h with e | e
        · exact .inl e
        · exact .inr e
theorem putL_len (x : It) : ∀ (l : List It), (putL x l).length ≤ l.length + 1
  | [] => by simp [putL]
  | y :: r => by
    unfold putL
    have := putL_len x r
    split
    · simp; omega
    · split
      · split <;> simp
      · simp
theorem putL_rise (x : It) : ∀ (l : List It), Rise l → Rise (putL x l)
  | [], h => by unfold putL Rise; simp
  | y :: r, h => by
    have h' := List.pairwise_cons.1 (show List.Pairwise _ (y :: r) from h)
    unfold putL
    cases hy : y.less x with
    | true =>
      rw [if_pos rfl]
      refine List.pairwise_cons.2 ⟨fun z hz => ?_, putL_rise x r h'.2⟩
      rcases putL_mem x r z hz with rfl | e
      · exact hy
      · exact h'.1 z e
    | false =>
      rw [if_neg Bool.false_ne_true]
      cases hs : y.same x with
      | true =>
        rw [if_pos rfl]
        cases hw : x.wins y with
        | true =>
          rw [if_pos rfl]
          refine List.pairwise_cons.2 ⟨fun z hz => ?_, h'.2⟩
          refine less_same (b := y) ?_ (h'.1 z hz)
          rw [same_iff] at *; omega
        | false => rw [if_neg Bool.false_ne_true]; exact h
      | false =>
        rw [if_neg Bool.false_ne_true]
        have hxy : x.less y = true := tri y x hs hy
        refine List.pairwise_cons.2 ⟨fun z hz => ?_, h⟩
        rcases List.mem_cons.1 hz with rfl | e
        · exact hxy
        · exact less_trans hxy (h'.1 z e)
/-- The answer is a row of the call's own. -/
def AnsO (l : List It) (w : World) (e : Ending) (w' : World) : Prop := ∃ a c, e = .returned (.slice a l.length c) ∧ Is w' a l.length c l ∧ c ≤ 9223372036854775807 ∧ Below w.heap.size w w' ∧ OwnI w' w.heap.size (.slice a l.length c) l
def mgIn (y : It) (r : List It) (rec : List It → List It) : List It → List It
  | [] => y :: r
  | x :: s => if y.same x then (if x.wins y then x else y) :: rec s else if y.less x then y :: rec (x :: s) else x :: mgIn y r rec s
/-- Two rows laid together. -/
def mg : List It → List It → List It
  | [], l => l
  | y :: r, l => mgIn y r (mg r) l
theorem mg_nil : ∀ u : List It, mg u [] = u
  | [] => rfl
  | y :: r => rfl
theorem mg_cons (y x : It) (r s : List It) : mg (y :: r) (x :: s) = if y.same x then (if x.wins y then x else y) :: mg r s else if y.less x then y :: mg r (x :: s) else x :: mg (y :: r) s := rfl
theorem mg_one (x : It) : ∀ u : List It, mg u [x] = putL x u
  | [] => rfl
  | y :: r => by
    rw [mg_cons, mg_nil, mg_one x r, mg_nil]
    show _ = if y.less x then y :: putL x r else if y.same x then (if x.wins y then x :: r else y :: r) else x :: y :: r
    cases hs : y.same x with
    | true =>
      have hl : y.less x = false := by
        rw [same_iff] at hs
        cases h : y.less x with
        | false => rfl
        | true => rw [less_iff] at h; omega
      rw [hl, if_pos rfl, if_neg Bool.false_ne_true, if_pos rfl]
      cases x.wins y with
      | true => rfl
      | false => rfl
    | false =>
      rw [if_neg Bool.false_ne_true]
      cases y.less x with
      | true => rfl
      | false => rfl
theorem mg_len : ∀ (u l : List It), (mg u l).length ≤ u.length + l.length
  | [], l => by simp [mg]
  | y :: r, l => by
    induction l with
    | nil => rw [mg_nil]; simp
    | cons x s ih =>
      rw [mg_cons]
      split
      · have := mg_len r s; simp; omega
      · split
        · have := mg_len r (x :: s); simp at *; omega
        · simp at *; omega
theorem mg_mem : ∀ (u l : List It) (z : It), z ∈ mg u l → z ∈ u ∨ z ∈ l
  | [], l, z, h => .inr h
  | y :: r, l, z, h => by
    induction l with
    | nil => rw [mg_nil] at h; exact .inl h
    | cons x s ih =>
      rw [mg_cons] at h
      split at h
      · rcases List.mem_cons.1 h with e | e
        · split at e
          · exact .inr (by simp [e])
          · exact .inl (by simp [e])
        · rcases mg_mem r s z e with e | e
          · exact .inl (by simp [e])
          · exact .inr (by simp [e])
      · split at h
        · rcases List.mem_cons.1 h with e | e
          · exact .inl (by simp [e])
          · rcases mg_mem r (x :: s) z e with e | e
            · exact .inl (by simp [e])
            · exact .inr e
        · rcases List.mem_cons.1 h with e | e
          · exact .inr (by simp [e])
          · rcases ih e with e | e
            · exact .inl e
            · exact .inr (by simp [e])

/-- A slice of items, and what it leads to. -/
structure Sl where
  a : Option Addr
  n : Nat
  c : Nat
  l : List It
/-- The slice value (ao, len, cap) leads to slices of items. -/
def Rws (w : World) (ao : Option Addr) (len cap : Nat) (zs : List Sl) : Prop :=
  zs.length = len ∧ (len ≤ cap ∧ (ao = none → len = 0 ∧ cap = 0)) ∧ (∀ z ∈ zs, Is w z.a z.n z.c z.l ∧ z.n ≤ 9223372036854775807) ∧
    (0 < len → ∃ b off, ao = some ⟨b, off, none⟩ ∧ ∀ i z, zs[i]? = some z → w.cell? ⟨b, off + i, none⟩ = some (.slice z.a z.n z.c))
theorem Rws.below {w w' : World} {B : Nat} {ao : Option Addr} {len cap : Nat} {zs : List Sl} (h : Rws w ao len cap zs) (hb : Below B w w') (hB : w.heap.size ≤ B) : Rws w' ao len cap zs := by
  refine ⟨h.1, h.2.1, fun z hz => ⟨(h.2.2.1 z hz).1.below hb hB, (h.2.2.1 z hz).2⟩, fun h0 => ?_⟩
  obtain ⟨b, off, ho, hc⟩ := h.2.2.2 h0
  refine ⟨b, off, ho, fun i z hi => ?_⟩
  have hlt := World.block_lt_of_cell? w _ (hc i z hi)
  exact (hb.cell (p := ⟨b, off + i, none⟩) (Nat.lt_of_lt_of_le hlt hB)).trans (hc i z hi)
/-- All rows laid together. -/
def rowsL (zs : List Sl) : List It := zs.foldl (fun o z => mg o z.l) []
theorem rowsL_take (zs : List Sl) (i : Nat) (z : Sl) (h : zs[i]? = some z) : rowsL (zs.take (i + 1)) = mg (rowsL (zs.take i)) z.l := by
  unfold rowsL
  rw [List.take_add_one, h, List.foldl_append]
  rfl
def sumL (zs : List Sl) : Nat := (zs.map fun z => z.l.length).sum
theorem sumL_take (zs : List Sl) (i : Nat) (z : Sl) (h : zs[i]? = some z) : sumL (zs.take (i + 1)) = sumL (zs.take i) + z.l.length := by
  unfold sumL
  rw [List.take_add_one, h]
  simp
theorem sumL_le (zs : List Sl) (i : Nat) : sumL (zs.take i) ≤ sumL zs := by
  unfold sumL
  conv => rhs; rw [← List.take_append_drop i zs, List.map_append, List.sum_append]
  omega

section
variable {H : Type} {enc : TypeId × Value → H} {W : World} {base : Nat} {spare : Nat → Bool} {held : Bool}
set_option maxRecDepth 100000 in
theorem open_rows {a : Option Addr} {len cap : Nat} {d : DataW H} {p : List MemPlace} (h : DataW.Trod enc Try.prog W base spare held 22 (.slice a len cap) d p) :
    ∃ zs, Rws W a len cap zs ∧ len ≤ 9223372036854775807 := by
  haveI : Inhabited Sl := ⟨⟨none, 0, 0, []⟩⟩
  have hce : Try.prog.cellsOf 25 = 1 := by kernel_rfl
  obtain ⟨fuel, hf⟩ := h
  rcases open_slice Try.underlying22 hf with ⟨hcs, _⟩ | ⟨x, l, c, m, n, D, Pl, hcs, _, hl, hm, hmm, _, hx⟩
  · simp [Value.cells] at hcs
    obtain ⟨rfl, rfl, rfl⟩ := hcs
    exact ⟨[], ⟨rfl, ⟨Nat.le_refl _, fun _ => ⟨rfl, rfl⟩⟩, by simp, fun h => by omega⟩, by omega⟩
  · simp [Value.cells] at hcs
    obtain ⟨rfl, rfl, rfl⟩ := hcs
    have hlm : len ≤ m := by rw [hmm]; split <;> omega
    have each : ∀ i, i < len → ∃ z : Sl, (Is W z.a z.n z.c z.l ∧ z.n ≤ 9223372036854775807) ∧ W.cell? (x.add i) = some (.slice z.a z.n z.c) := by
      intro i hi
      obtain ⟨cs', h1, h2⟩ := hx i (by omega)
      rw [hce] at h1
      obtain ⟨_, hlen, hc⟩ := World.cells?_some h1
      obtain ⟨v, rfl⟩ := List.length_eq_one_iff.1 hlen
      have hv := hc 0 (by omega)
      obtain ⟨s, n', c', rfl⟩ : ∃ s n' c', v = .slice s n' c' := by
        rcases open_slice Try.underlying25 h2 with ⟨hcs, _⟩ | ⟨x', l', c', m', n'', D', Pl', hcs, _⟩
        · exact ⟨none, 0, 0, by simpa using hcs⟩
        · exact ⟨some x', l', c', by simpa using hcs⟩
      obtain ⟨l, hI, hn⟩ := open_items (a := s) (len := n') (cap := c') (H := H) (enc := enc) (W := W) (base := base) (spare := spare) (held := held) ⟨_, h2⟩
      refine ⟨⟨s, n', c', l⟩, ⟨hI, hn⟩, ?_⟩
      rw [Nat.mul_one] at hv
      simpa [Addr.add] using hv
    obtain ⟨q, hq⟩ := choose_lt each
    refine ⟨(List.range len).map q, ⟨by simp, ⟨hl, fun h => by cases h⟩, ?_, fun h0 => ?_⟩, by unfold maxLen at hm; omega⟩
    · intro z hz
      obtain ⟨i, hi, rfl⟩ := List.mem_map.1 hz
      exact (hq i (List.mem_range.1 hi)).1
    · obtain ⟨b, off, spot⟩ := x
      have hc := (hq 0 h0).2
      have hspot : spot = none := by simpa [Addr.add] using World.cell?_spot hc
      subst hspot
      refine ⟨b, off, rfl, fun i z hi => ?_⟩
      have hil : i < len := by
        have := (List.getElem?_eq_some_iff.1 hi).1
        simpa using this
      have : q i = z := by simpa [hil] using hi
      subst this
      have g := (hq i hil).2
      simpa only [add_plain] using g
end

end Go.Proofs.Ytkkcchklefcljaa.Clep
