/- Rows of items: what a slice of items leads to; how many of them may be; their bytes. No conditions. -/
import Derived.Test.YtfmofkkjnepbcaaIGrow
namespace Go.Proofs.Ytfmofkkjnepbcaa.Clep
open Go.RowKit
set_option linter.unusedVariables false

/-- An item. -/
structure It where
  S : Int
  K : Int
  T : Int
  V : Int
  X : Int
def It.ok (x : It) : Bool := okI x.S x.K x.T x.V x.X
def It.wf (x : It) : Prop := (-9223372036854775808 ≤ x.S ∧ x.S ≤ 9223372036854775807) ∧ (-9223372036854775808 ≤ x.K ∧ x.K ≤ 9223372036854775807) ∧ (0 ≤ x.T ∧ x.T ≤ 18446744073709551615) ∧ (0 ≤ x.V ∧ x.V ≤ 18446744073709551615) ∧ (-9223372036854775808 ≤ x.X ∧ x.X ≤ 9223372036854775807)
def It.b (x : It) : List Int := ib x.S x.K x.T x.V x.X
def Vt (w : World) (R o : Nat) (x : It) : Prop := Vi w R o x.S x.K x.T x.V x.X
/-- The slice value (ao, len, cap) leads to the items l in w. -/
def Is (w : World) (ao : Option Addr) (len cap : Nat) (l : List It) : Prop :=
  l.length = len ∧ (len ≤ cap ∧ (ao = none → len = 0 ∧ cap = 0)) ∧ (∀ x ∈ l, x.wf) ∧
    (0 < len → ∃ b off, ao = some ⟨b, off, none⟩ ∧ ∀ i x, l[i]? = some x → Vt w b (off + i * 5) x)
theorem is_nil (w : World) : Is w none 0 0 [] := ⟨rfl, ⟨Nat.le_refl _, fun _ => ⟨rfl, rfl⟩⟩, by simp, fun h => by omega⟩
theorem Is.below {w w' : World} {B : Nat} {ao : Option Addr} {len cap : Nat} {l : List It} (h : Is w ao len cap l) (hb : Below B w w') (hB : w.heap.size ≤ B) : Is w' ao len cap l := by
  refine ⟨h.1, h.2.1, h.2.2.1, fun h0 => ?_⟩
  obtain ⟨b, off, ho, hc⟩ := h.2.2.2 h0
  refine ⟨b, off, ho, fun i x hi => ?_⟩
  have := hc i x hi
  exact this.below hb (Nat.lt_of_lt_of_le this.lt hB)
theorem Is.grown {w w' : World} {row : Option Nat} {b off len cap : Nat} {l : List It} (h : Is w (some ⟨b, off, none⟩) len cap l) (hg : w.grownBy w' row) (hne : some b ≠ row) : Is w' (some ⟨b, off, none⟩) len cap l := by
  refine ⟨h.1, h.2.1, h.2.2.1, fun h0 => ?_⟩
  obtain ⟨b', off', ho, hc⟩ := h.2.2.2 h0
  cases ho
  exact ⟨b, off, rfl, fun i x hi => (hc i x hi).grown hg hne⟩
/-- How many of the first k may be. -/
def okc (l : List It) (k : Nat) : Int := (((l.take k).countP It.ok : Nat) : Int)
theorem okc_zero (l : List It) : okc l 0 = 0 := by simp [okc]
theorem okc_succ (l : List It) (k : Nat) (x : It) (h : l[k]? = some x) : okc l (k + 1) = okc l k + if x.ok then 1 else 0 := by
  have hk : k < l.length := (List.getElem?_eq_some_iff.1 h).1
  unfold okc
  rw [List.take_add_one, h]
  simp only [Option.toList, List.countP_append, List.countP_singleton]
  split <;> simp
theorem okc_le (l : List It) (k : Nat) : 0 ≤ okc l k ∧ okc l k ≤ k := by
  unfold okc
  have h1 := List.countP_le_length (p := It.ok) (l := l.take k)
  have h2 : (l.take k).length ≤ k := by rw [List.length_take]; omega
  omega
theorem okc_all (l : List It) : (okc l l.length == (l.length : Int)) = l.all It.ok := by
  unfold okc
  rw [List.take_length, Bool.eq_iff_iff]
  simp only [beq_iff_eq, List.all_eq_true]
  rw [← List.countP_eq_length (p := It.ok) (l := l)]
  omega
/-- The bytes of items. -/
def ibs (l : List It) : List Int := l.flatMap It.b
def ibn (l : List It) : List Int := pu l.length ++ ibs l
theorem ibs_succ (l : List It) (k : Nat) (x : It) (h : l[k]? = some x) : ibs (l.take (k + 1)) = ibs (l.take k) ++ x.b := by
  unfold ibs
  rw [List.take_add_one, h]
  simp [List.flatMap_append, Option.toList]
theorem ibs_len (l : List It) : 5 * l.length ≤ (ibs l).length ∧ (ibs l).length ≤ 32 * l.length := by
  induction l with
  | nil => simp [ibs]
  | cons x r ih =>
    have := ib_len x.S x.K x.T x.V x.X
    have e : (ibs (x :: r)).length = (x.b).length + (ibs r).length := by simp [ibs]
    rw [e, List.length_cons]
    unfold It.b
    omega
theorem ib_range (x : It) (h : x.wf) : ∀ z ∈ x.b, 0 ≤ z ∧ z < 256 := by
  obtain ⟨_, _, hT, hV, hX⟩ := h
  have hs := sgn_range x.X hX.1 hX.2
  unfold It.b ib
  refine cat_range (cat_range (cat_range ?_ (pu_range _ hT.1 hT.2)) (pu_range _ hV.1 hV.2)) (pu_range _ hs.1 hs.2)
  intro z hz
  simp only [List.mem_cons, List.not_mem_nil, or_false] at hz
  omega
theorem ibs_range (l : List It) (h : ∀ x ∈ l, x.wf) : ∀ z ∈ ibs l, 0 ≤ z ∧ z < 256 := by
  intro z hz
  unfold ibs at hz
  obtain ⟨x, hx, hz'⟩ := List.mem_flatMap.1 hz
  exact ib_range x (h x hx) z hz'
theorem ta_new (w : World) : Ta (w.alloc (Obj.cells #[Value.int IntKind.i64 0, Value.int IntKind.i64 0] 58)) w.heap.size 0 0 := by
  unfold Ta; simp [go_sem]

end Go.Proofs.Ytfmofkkjnepbcaa.Clep
