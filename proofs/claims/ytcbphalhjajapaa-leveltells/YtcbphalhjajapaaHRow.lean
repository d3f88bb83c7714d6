/- Files in memory: by value, in rows that come in, in rows that a call makes. No conditions. -/
import Derived.Test.YtcbphalhjajapaaHBlk
import Derived.Test.YtcbphalhjajapaaHMath
namespace Go.Proofs.Ytcbphalhjajapaa.Clep
open Go.RowKit
set_option linter.unusedVariables false
set_option maxRecDepth 10000
set_option linter.unusedSimpArgs false

def hi64 (x : Int) : Prop := -9223372036854775808 ≤ x ∧ x ≤ 9223372036854775807
/-- The file's keys lie so in w; its numbers are numbers. -/
def He.ok (w : World) (x : He) : Prop := (Bs w x.fa x.fz.length x.fc x.fz ∧ x.fz.length ≤ 9223372036854775807) ∧ (Bs w x.ga x.gz.length x.gc x.gz ∧ x.gz.length ≤ 9223372036854775807) ∧ hi64 x.N ∧ hi64 x.L ∧ hi64 x.M
/-- Its keys can be copied. -/
def He.sm (x : He) : Prop := x.fz.length ≤ 140737488355328 ∧ x.gz.length ≤ 140737488355328
theorem He.ok.below {w w' : World} {B : Nat} {x : He} (h : x.ok w) (hb : Below B w w') (hB : w.heap.size ≤ B) : x.ok w' := ⟨⟨h.1.1.below hb hB, h.1.2⟩, ⟨h.2.1.1.below hb hB, h.2.1.2⟩, h.2.2⟩
/-- The slice (ao, len, cap) leads to the files l. -/
def Hs (w : World) (ao : Option Addr) (len cap : Nat) (l : List He) : Prop :=
  l.length = len ∧ (len ≤ cap ∧ (ao = none → len = 0 ∧ cap = 0)) ∧ (∀ x ∈ l, x.ok w) ∧
    (0 < len → ∃ b off, ao = some ⟨b, off, none⟩ ∧ ∀ (i : Nat) (x : He) (j : Nat) (u : Value), l[i]? = some x → x.cs[j]? = some u → w.cell? ⟨b, off + i * 5 + j, none⟩ = some u)
theorem hs_nil (w : World) : Hs w none 0 0 [] := ⟨rfl, ⟨Nat.le_refl _, fun _ => ⟨rfl, rfl⟩⟩, by simp, fun h => by omega⟩
theorem Hs.below {w w' : World} {B : Nat} {ao : Option Addr} {len cap : Nat} {l : List He} (h : Hs w ao len cap l) (hb : Below B w w') (hB : w.heap.size ≤ B) : Hs w' ao len cap l := by
  refine ⟨h.1, h.2.1, fun x hx => (h.2.2.1 x hx).below hb hB, fun h0 => ?_⟩
  obtain ⟨b, off, e, hc⟩ := h.2.2.2 h0
  refine ⟨b, off, e, fun i y j u hy hu => ?_⟩
  have hg := hc i y j u hy hu
  exact (hb.cell (p := ⟨b, off + i * 5 + j, none⟩) (Nat.lt_of_lt_of_le (World.block_lt_of_cell? w _ hg) hB)).trans hg
theorem hs_at {w : World} {ao : Option Addr} {len cap : Nat} {l : List He} (h : Hs w ao len cap l) (k : Nat) (hk : k < len) : ∃ y b off, l[k]? = some y ∧ ao = some ⟨b, off, none⟩ ∧ y.ok w ∧
    w.cell? ⟨b, off + k * 5, none⟩ = some (.int .i64 y.N) ∧ w.cell? ⟨b, off + k * 5 + 1, none⟩ = some (.int .i64 y.L) ∧ w.cell? ⟨b, off + k * 5 + 2, none⟩ = some (.slice y.fa y.fz.length y.fc) ∧ w.cell? ⟨b, off + k * 5 + 3, none⟩ = some (.slice y.ga y.gz.length y.gc) ∧
    w.cell? ⟨b, off + k * 5 + 4, none⟩ = some (.int .i64 y.M) := by
  obtain ⟨b, off, e, hc⟩ := h.2.2.2 (by omega)
  obtain ⟨y, hy⟩ : ∃ y, l[k]? = some y := ⟨_, List.getElem?_eq_getElem (by rw [h.1]; exact hk)⟩
  exact ⟨y, b, off, hy, e, h.2.2.1 y (List.mem_of_getElem? hy), hc k y 0 _ hy rfl, hc k y 1 _ hy rfl, hc k y 2 _ hy rfl, hc k y 3 _ hy rfl, hc k y 4 _ hy rfl⟩
theorem Hs.take {w : World} {b off n c : Nat} {l : List He} (h : Hs w (some ⟨b, off, none⟩) n c l) (k : Nat) (hk : k ≤ n) : Hs w (some ⟨b, off, none⟩) k c (l.take k) := by
  refine ⟨by rw [List.length_take, h.1]; omega, ⟨Nat.le_trans hk h.2.1.1, fun e => by cases e⟩, fun x hx => h.2.2.1 x (List.mem_of_mem_take hx), fun h0 => ?_⟩
  obtain ⟨b', off', e, hc⟩ := h.2.2.2 (by omega)
  cases e
  refine ⟨b, off, rfl, fun i x j u hx hu => hc i x j u ?_ hu⟩
  have hi : i < k := by have := (List.getElem?_eq_some_iff.1 hx).1; rw [List.length_take] at this; omega
  rwa [List.getElem?_take_of_lt hi] at hx

/-- The cells of a row of files. -/
def hcs (l : List He) : List Value := l.flatMap He.cs
theorem hcs_len (l : List He) : (hcs l).length = l.length * 5 := by
  induction l with
  | nil => rfl
  | cons x r ih => simp [hcs, He.cs] at ih ⊢; omega
theorem hcs_get (l : List He) : ∀ (i j : Nat) (x : He), l[i]? = some x → j < 5 → (hcs l)[i * 5 + j]? = x.cs[j]? := by
  induction l with
  | nil => intro i j x h; simp at h
  | cons y r ih =>
    intro i j x h hj
    have e : hcs (y :: r) = y.cs ++ hcs r := by simp [hcs]
    rw [e]
    cases i with
    | zero =>
      simp at h; subst h
      rw [Nat.zero_mul, Nat.zero_add, List.getElem?_append_left (by simp [He.cs]; omega)]
    | succ i =>
      simp at h
      rw [List.getElem?_append_right (by simp [He.cs]; omega), show (i + 1) * 5 + j - y.cs.length = i * 5 + j from by simp [He.cs]; omega]
      exact ih i j x h hj
/-- The slice value v owns the files l. -/
def OwnH (w : World) (B : Nat) (v : Value) (l : List He) : Prop := w.ownsRow B 27 5 v l.length (hcs l)
theorem infoH : (Try.prog.info? 27).map (fun i => (i.zero, i.size, i.bytes)) = some (some (.agg #[.int .i64 0, .int .i64 0, .slice none 0 0, .slice none 0 0, .int .i64 0]), 5, 72) := by kernel_rfl
theorem ownH_nil (w : World) (B : Nat) : OwnH w B (.slice none 0 0) [] := World.ownsRow_nil _ _ _ _
theorem ownH_grown {w w' : World} {B : Nat} {v : Value} {l : List He} {row : Option Nat} (h : OwnH w B v l) (hg : w.grownBy w' row) (hne : ∀ k, row = some k → k < B) : OwnH w' B v l := by
  refine World.ownsRow.kept h hg ?_
  cases hv : v.ownBlock with
  | none => exact .inl rfl
  | some k =>
    refine .inr (fun e => ?_)
    have h1 := World.ownsRow.lt h k hv
    have := hne k e.symm
    omega
theorem ownH_keep {w w' : World} {B : Nat} {v : Value} {l : List He} (h : OwnH w B v l) (hb : Below w.heap.size w w') : OwnH w' B v l := ownH_grown h (fgb_below hb none) (by simp)
/-- Where the row lies: a slice that leads to the files. -/
theorem ownH_hs {w : World} {B : Nat} {v : Value} {l : List He} (h : OwnH w B v l) (hw : ∀ x ∈ l, x.ok w) : ∃ ao cap, v = .slice ao l.length cap ∧ cap ≤ 9223372036854775807 ∧ Hs w ao l.length cap l ∧ ∀ a, ao = some a → B ≤ a.block := by
  obtain ⟨hl, ⟨rfl, hn⟩ | ⟨g, cap, cur, rfl, hg, hh, hnc, hcm, hcs, hx⟩⟩ := h
  · exact ⟨none, 0, by rw [hn], by omega, ⟨rfl, ⟨by omega, fun _ => ⟨hn, rfl⟩⟩, hw, fun h => by omega⟩, fun a h => by cases h⟩
  · refine ⟨some ⟨g, 0, none⟩, cap, rfl, by unfold maxLen at hcm; omega, ⟨rfl, ⟨hnc, fun h => by cases h⟩, hw, fun _ => ⟨g, 0, rfl, fun i x j u hx' hu => ?_⟩⟩, fun a h => by cases h; exact hg⟩
    have hj : j < 5 := by have := (List.getElem?_eq_some_iff.1 hu).1; simpa [He.cs] using this
    have hc := World.ownsRow.cells (w := w) (base := B) (e := 27) (size := 5) (v := .slice (some ⟨g, 0, none⟩) l.length cap) (n := l.length) (xs := Clep.hcs l)
      ⟨hl, .inr ⟨g, cap, cur, rfl, hg, hh, hnc, hcm, hcs, hx⟩⟩ (g := g) rfl (i * 5 + j) u (by rw [hcs_get l i j x hx' hj]; exact hu)
    rw [add_plain] at hc
    rw [show 0 + i * 5 + j = 0 + (i * 5 + j) from by omega]
    exact hc
/-- One file more behind a row of files; where the row then is. -/
theorem wpList_append_h {w : World} {ops : Array Oper} {rest : List Oper} {o : Oper} {a : Act} {Q : Exit → Act → World → Prop} (hgd : o.guard = none) (s x : Operand)
    (ho : o.op = .call { callee := .builtin .append, args := #[s, x], argTypes := #[22, 22] })
    (base : Nat) (v : Value) (l : List He) (hs : a.eval s = v) (hown : OwnH w base v l) (p : Nat) (z : He) (hx : a.eval x = .slice (some ⟨p, 0, none⟩) 1 1) (hp : Ek w p z.cs.toArray 27)
    (hlen : l.length ≤ 100000) (hbase : base ≤ w.heap.size)
    (h : ∀ v' w', OwnH w' base v' (l ++ [z]) → w.grownBy w' v.ownBlock → (∀ k, v.ownBlock = some k → base ≤ k) → (v'.ownBlock = v.ownBlock ∨ v'.ownBlock = some w.heap.size) → wpList Try.prog ops Q rest (a.put o.dst v') w') : wpList Try.prog ops Q (o :: rest) a w := by
  obtain ⟨i0, hi, hz0, hz1, hz2⟩ := info_parts infoH
  refine wpList_append_own_at _ hgd s x 22 ho base 27 i0 _ 5 72 Try.underlying22 hi hz0 hz1 hz2 rfl (by decide) v l.length (hcs l) hs hown ⟨p, 0, none⟩ 1 1 z.cs hx rfl ?_ ?_ (by unfold maxLen; omega) (by omega) hbase ?_
  · intro j u hu
    rw [add_plain, Nat.zero_add]
    exact hp.cell (by simpa using hu)
  · intro u hu
    simp only [He.cs, List.mem_cons, List.not_mem_nil, or_false] at hu
    rcases hu with rfl | rfl | rfl | rfl | rfl <;> rfl
  · intro v' w' h1 h2 _ h3
    refine h v' w' ?_ h2 (fun k hk => (World.ownsRow.lt hown k hk).1) h3
    unfold OwnH
    rw [List.length_append, show hcs (l ++ [z]) = hcs l ++ z.cs from by simp [hcs]]
    exact h1

end Go.Proofs.Ytcbphalhjajapaa.Clep
