/- Blocks that are held whole; rows of whole numbers. No conditions. -/
import Derived.Test.YtcbphalhjajapaaBase
import Derived.Laws.AppendOwnNone
import Derived.Maps.AppendAt
import Derived.Deep.RegionLaw
import Derived.Deep.RegionHeldLaw
namespace Go.Proofs.Ytcbphalhjajapaa.Clep
open Go.RowKit
set_option linter.unusedVariables false
set_option maxRecDepth 10000

theorem fgb_below {w w' : World} (h : Below w.heap.size w w') (row : Option Nat) : w.grownBy w' row := ⟨h.os, h.tape, h.output, h.size, fun i hi _ => h.block i hi⟩
/-- The block b holds the cells cs. -/
def Ek (w : World) (b : Nat) (cs : Array Value) (T : TypeId) : Prop := w.heap[b]? = some (.cells cs T (0, 0))
theorem Ek.cell {w : World} {b : Nat} {cs : Array Value} {T : TypeId} (h : Ek w b cs T) {o : Nat} {v : Value} (hv : cs[o]? = some v) : w.cell? ⟨b, o, none⟩ = some v := by
  simp [World.cell?, show w.heap[b]? = _ from h, hv]
theorem Ek.free {w : World} {b : Nat} {cs : Array Value} {T : TypeId} (h : Ek w b cs T) (o : Nat) : w.frozen? ⟨b, o, none⟩ = false := by
  simp [World.frozen?, show w.heap[b]? = _ from h]
theorem Ek.lt {w : World} {b : Nat} {cs : Array Value} {T : TypeId} (h : Ek w b cs T) : b < w.heap.size := (Array.getElem?_eq_some_iff.1 h).1
theorem Ek.set {w : World} {b : Nat} {cs : Array Value} {T : TypeId} (h : Ek w b cs T) (o : Nat) (v : Value) : Ek (w.setCell ⟨b, o, none⟩ v) b (cs.setIfInBounds o v) T := by
  unfold Ek at *
  simp [World.setCell, Array.getElem?_modify, h]
theorem Ek.gb {w w' : World} {row : Option Nat} {b : Nat} {cs : Array Value} {T : TypeId} (h : Ek w b cs T) (hg : w.grownBy w' row) (hne : some b ≠ row) : Ek w' b cs T := by
  unfold Ek at *
  rw [hg.block b (Array.getElem?_eq_some_iff.1 h).1 hne]; exact h
theorem Ek.below {w w' : World} {B b : Nat} {cs : Array Value} {T : TypeId} (h : Ek w b cs T) (hb : Below B w w') (hB : b < B) : Ek w' b cs T := by
  unfold Ek at *
  rw [hb.block b hB]; exact h
theorem fgb_set (w : World) (p : Addr) (u : Value) : w.grownBy (w.setCell p u) (some p.block) :=
  ⟨rfl, rfl, rfl, by simp [World.setCell], fun i hi hne => Below.heap_setCell _ _ _ _ (fun e => hne (by rw [e]))⟩
theorem ek_new (w : World) (cs : Array Value) (T : TypeId) : Ek (w.alloc (.cells cs T)) w.heap.size cs T := by
  show (w.heap.push _)[w.heap.size]? = _
  simp
theorem ek_old {w : World} {b : Nat} {cs : Array Value} {T : TypeId} (h : Ek w b cs T) (o : Obj) : Ek (w.alloc o) b cs T := by
  unfold Ek at *
  rw [Below.heap_alloc w o b (Array.getElem?_eq_some_iff.1 h).1]; exact h

theorem fhpS (W : World) (o : Obj) (k : Nat) (hk : k = W.heap.size) : (W.alloc o).heap[k]? = some o := by
  subst hk
  show (W.heap.push o)[W.heap.size]? = _
  simp

theorem Ek.drew {w : World} {b : Nat} {cs : Array Value} {T : TypeId} (h : Ek w b cs T) : Ek w.drew b cs T := h
theorem bset {w W : World} {B R k : Nat} {u : Value} (h : Below B w W) (hR : B ≤ R) (hs : B ≤ W.heap.size) : Below B w (W.setCell ⟨R, k, none⟩ u) ∧ B ≤ (W.setCell ⟨R, k, none⟩ u).heap.size := by
  have hg := fgb_set W ⟨R, k, none⟩ u
  exact ⟨h.grown hg hs (fun k hk => by cases hk; exact hR), Nat.le_trans hs hg.size⟩
/-- The slice (ao, len, cap) leads to the numbers ns. -/
def Zs (w : World) (ao : Option Addr) (len cap : Nat) (ns : List Int) : Prop :=
  ns.length = len ∧ (len ≤ cap ∧ (ao = none → len = 0 ∧ cap = 0)) ∧ (∀ z ∈ ns, -9223372036854775808 ≤ z ∧ z ≤ 9223372036854775807) ∧
    (0 < len → ∃ b off, ao = some ⟨b, off, none⟩ ∧ ∀ i z, ns[i]? = some z → w.cell? ⟨b, off + i, none⟩ = some (.int .i64 z))
theorem zs_nil (w : World) : Zs w none 0 0 [] := ⟨rfl, ⟨Nat.le_refl _, fun _ => ⟨rfl, rfl⟩⟩, by simp, fun h => by omega⟩
theorem Zs.below {w w' : World} {B : Nat} {ao : Option Addr} {len cap : Nat} {l : List Int} (h : Zs w ao len cap l) (hb : Below B w w') (hB : w.heap.size ≤ B) : Zs w' ao len cap l := by
  refine ⟨h.1, h.2.1, h.2.2.1, fun h0 => ?_⟩
  obtain ⟨b, off, e, hc⟩ := h.2.2.2 h0
  refine ⟨b, off, e, fun i z hz => ?_⟩
  exact (hb.cell (p := ⟨b, off + i, none⟩) (Nat.lt_of_lt_of_le (World.block_lt_of_cell? w _ (hc i z hz)) hB)).trans (hc i z hz)
theorem zs_at {w : World} {ao : Option Addr} {len cap : Nat} {l : List Int} (h : Zs w ao len cap l) (k : Nat) (hk : k < len) : ∃ z b off, l[k]? = some z ∧ ao = some ⟨b, off, none⟩ ∧ w.cell? ⟨b, off + k, none⟩ = some (.int .i64 z) ∧ -9223372036854775808 ≤ z ∧ z ≤ 9223372036854775807 := by
  obtain ⟨b, off, e, hc⟩ := h.2.2.2 (by omega)
  obtain ⟨z, hz⟩ : ∃ z, l[k]? = some z := ⟨_, List.getElem?_eq_getElem (by rw [h.1]; exact hk)⟩
  exact ⟨z, b, off, hz, e, hc k z hz, h.2.2.1 z (List.mem_of_getElem? hz)⟩
def iv9 (ns : List Int) : List Value := ns.map (Value.int .i64)
/-- The slice value v owns the whole numbers ns. -/
def OwnZ (w : World) (B : Nat) (v : Value) (ns : List Int) : Prop := w.ownsRow B 3 1 v ns.length (iv9 ns)
theorem info_int : (Try.prog.info? 3).map (fun i => (i.zero, i.size, i.bytes)) = some (some (.int .i64 0), 1, 8) := by kernel_rfl
theorem ownZ_nil (w : World) (B : Nat) : OwnZ w B (.slice none 0 0) [] := World.ownsRow_nil _ _ _ _
theorem wpList_append_z {w : World} {ops : Array Oper} {rest : List Oper} {o : Oper} {a : Act} {Q : Exit → Act → World → Prop} (hgd : o.guard = none) (s x : Operand)
    (ho : o.op = .call { callee := .builtin .append, args := #[s, x], argTypes := #[28, 28] })
    (base : Nat) (v : Value) (ns : List Int) (hs : a.eval s = v) (hown : OwnZ w base v ns) (p : Nat) (z : Int) (hx : a.eval x = .slice (some ⟨p, 0, none⟩) 1 1) (hp : Ek w p #[.int .i64 z] 3)
    (hlen : ns.length ≤ 100000) (hbase : base ≤ w.heap.size)
    (h : ∀ v' w', OwnZ w' base v' (ns ++ [z]) → w.grownBy w' v.ownBlock → (∀ k, v.ownBlock = some k → base ≤ k) → wpList Try.prog ops Q rest (a.put o.dst v') w') : wpList Try.prog ops Q (o :: rest) a w := by
  obtain ⟨i0, hi, hz0, hz1, hz2⟩ := info_parts info_int
  refine wpList_append_own _ hgd s x 28 ho base 3 i0 (.int .i64 0) 1 8 Try.underlying28 hi hz0 hz1 hz2 rfl (by decide) v ns.length (iv9 ns) hs hown ⟨p, 0, none⟩ 1 1 [.int .i64 z] hx rfl ?_ ?_ (by unfold maxLen; omega) (by omega) hbase ?_
  · intro j u hu
    match j, hu with
    | 0, hu =>
      simp at hu
      subst hu
      exact hp.cell rfl
    | k + 1, hu => simp at hu
  · intro u hu
    simp at hu
    subst hu
    rfl
  · intro v' w' h1 h2 _
    refine h v' w' ?_ h2 (fun k hk => (World.ownsRow.lt hown k hk).1)
    unfold OwnZ iv9
    simpa [iv9] using h1
theorem ownZ_zs {w : World} {B : Nat} {v : Value} {ns : List Int} (h : OwnZ w B v ns) (hz : ∀ z ∈ ns, -9223372036854775808 ≤ z ∧ z ≤ 9223372036854775807) :
    ∃ ao cap, v = .slice ao ns.length cap ∧ cap ≤ 9223372036854775807 ∧ Zs w ao ns.length cap ns ∧ ∀ a, ao = some a → B ≤ a.block := by
  obtain ⟨hl, ⟨rfl, hn⟩ | ⟨g, cap, cur, rfl, hg, hh, hnc, hcm, hcs, hx⟩⟩ := h
  · exact ⟨none, 0, by rw [hn], by omega, ⟨rfl, ⟨by omega, fun _ => ⟨hn, rfl⟩⟩, hz, fun h => by omega⟩, fun a h => by cases h⟩
  · refine ⟨some ⟨g, 0, none⟩, cap, rfl, by unfold maxLen at hcm; omega, ⟨rfl, ⟨hnc, fun h => by cases h⟩, hz, fun _ => ⟨g, 0, rfl, fun i z hi => ?_⟩⟩, fun a h => by cases h; exact hg⟩
    have hc := World.ownsRow.cells (w := w) (base := B) (e := 3) (size := 1) (v := .slice (some ⟨g, 0, none⟩) ns.length cap) (n := ns.length) (xs := iv9 ns)
      ⟨hl, .inr ⟨g, cap, cur, rfl, hg, hh, hnc, hcm, hcs, hx⟩⟩ (g := g) rfl i (.int .i64 z) (by simp [iv9, hi])
    rwa [add_plain] at hc
/-- One number more; where the row then is. -/
theorem wpList_append_zz {w : World} {ops : Array Oper} {rest : List Oper} {o : Oper} {a : Act} {Q : Exit → Act → World → Prop} (hgd : o.guard = none) (s x : Operand)
    (ho : o.op = .call { callee := .builtin .append, args := #[s, x], argTypes := #[28, 28] })
    (base : Nat) (v : Value) (ns : List Int) (hs : a.eval s = v) (hown : OwnZ w base v ns) (p : Nat) (z : Int) (hx : a.eval x = .slice (some ⟨p, 0, none⟩) 1 1) (hp : Ek w p #[.int .i64 z] 3)
    (hlen : ns.length ≤ 100000) (hbase : base ≤ w.heap.size)
    (h : ∀ v' w', OwnZ w' base v' (ns ++ [z]) → w.grownBy w' v.ownBlock → (∀ k, v.ownBlock = some k → base ≤ k) → (v'.ownBlock = v.ownBlock ∨ v'.ownBlock = some w.heap.size) → wpList Try.prog ops Q rest (a.put o.dst v') w') : wpList Try.prog ops Q (o :: rest) a w := by
  obtain ⟨i0, hi, hz0, hz1, hz2⟩ := info_parts info_int
  refine wpList_append_own_at _ hgd s x 28 ho base 3 i0 (.int .i64 0) 1 8 Try.underlying28 hi hz0 hz1 hz2 rfl (by decide) v ns.length (iv9 ns) hs hown ⟨p, 0, none⟩ 1 1 [.int .i64 z] hx rfl ?_ ?_ (by unfold maxLen; omega) (by omega) hbase ?_
  · intro j u hu
    match j, hu with
    | 0, hu =>
      simp at hu
      subst hu
      exact hp.cell rfl
    | k + 1, hu => simp at hu
  · intro u hu
    simp at hu
    subst hu
    rfl
  · intro v' w' h1 h2 _ h3
    refine h v' w' ?_ h2 (fun k hk => (World.ownsRow.lt hown k hk).1) h3
    unfold OwnZ iv9
    simpa [iv9] using h1
/-- A row that is one block, made at once. -/
theorem own_one {w : World} {B p size : Nat} {e : TypeId} {cs : Array Value} (h : w.heap[p]? = some (.cells cs e (0, 0))) (hB : B ≤ p) (hs : cs.size = size) : w.ownsRow B e size (.slice (some ⟨p, 0, none⟩) 1 1) 1 cs.toList :=
  ⟨by rw [Array.length_toList]; omega, .inr ⟨p, 1, cs, rfl, hB, h, Nat.le_refl _, by decide, by omega, by rw [List.take_of_length_le]; rw [Array.length_toList]; omega⟩⟩
theorem ownZ_grown {w w' : World} {B : Nat} {v : Value} {l : List Int} {row : Option Nat} (h : OwnZ w B v l) (hg : w.grownBy w' row) (hne : ∀ k, row = some k → k < B) : OwnZ w' B v l := by
  refine World.ownsRow.kept h hg ?_
  cases hv : v.ownBlock with
  | none => exact .inl rfl
  | some k =>
    refine .inr (fun e => ?_)
    have h1 := World.ownsRow.lt h k hv
    have := hne k e.symm
    omega
theorem step_append_z {w : World} {ops : Array Oper} {o : Oper} {a : Act} {K : Act → World → Prop} {Q : Exit → Act → World → Prop} {E : Prop} (hgd : o.guard = none) (s x : Operand)
    (ho : o.op = .call { callee := .builtin .append, args := #[s, x], argTypes := #[28, 28] })
    (base : Nat) (v : Value) (ns : List Int) (hs : a.eval s = v) (hown : OwnZ w base v ns) (p : Nat) (z : Int) (hx : a.eval x = .slice (some ⟨p, 0, none⟩) 1 1) (hp : Ek w p #[.int .i64 z] 3)
    (hlen : ns.length ≤ 100000) (hbase : base ≤ w.heap.size)
    (h : ∀ v' w', OwnZ w' base v' (ns ++ [z]) → w.grownBy w' v.ownBlock → (∀ k, v.ownBlock = some k → base ≤ k) → K (a.put o.dst v') w') :
    if Region.wanted o (yielded ops a.tmps) = true then Oper.wp Try.prog o a w K Q else E := by
  have hw : Region.wanted o (yielded ops a.tmps) = true := by simp [Region.wanted, hgd]
  rw [if_pos hw]
  obtain ⟨i0, hi, hz0, hz1, hz2⟩ := info_parts info_int
  refine wp_append_own _ s x 28 ho base 3 i0 (.int .i64 0) 1 8 Try.underlying28 hi hz0 hz1 hz2 rfl (by decide) v ns.length (iv9 ns) hs hown ⟨p, 0, none⟩ 1 1 [.int .i64 z] hx rfl ?_ ?_ (by unfold maxLen; omega) (by omega) hbase ?_
  · intro j u hu
    match j, hu with
    | 0, hu =>
      simp at hu
      subst hu
      exact hp.cell rfl
    | k + 1, hu => simp at hu
  · intro u hu
    simp at hu
    subst hu
    rfl
  · intro v' w' h1 h2 _
    refine h v' w' ?_ h2 (fun k hk => (World.ownsRow.lt hown k hk).1)
    unfold OwnZ iv9
    simpa [iv9] using h1
theorem xrow_keep {w w' : World} {B size n : Nat} {e : TypeId} {v : Value} {xs : List Value} (h : w.ownsRow B e size v n xs) (hb : Below w.heap.size w w') : w'.ownsRow B e size v n xs :=
  World.ownsRow.kept h (fgb_below hb none) (by cases v.ownBlock <;> simp)

end Go.Proofs.Ytcbphalhjajapaa.Clep
