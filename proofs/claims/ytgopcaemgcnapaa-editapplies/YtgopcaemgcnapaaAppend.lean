/- An append of any bytes to a row of bytes that the call made, and a row that is written out on the spot: as one rule each. Conditions: lengths of at most 2^46. -/
import Derived.Test.YtgopcaemgcnapaaBase
import Derived.Laws.AppendOwnNone
import Derived.Laws.OwnMore
namespace Go.Proofs.Ytgopcaemgcnapaa.Clep
open Go.RowKit
set_option linter.unusedVariables false
set_option maxRecDepth 10000

theorem wpList_append_bytes {w : World} {ops : Array Oper} {rest : List Oper} {o : Oper} {a : Act} {Q : Exit → Act → World → Prop} (hgd : o.guard = none) (s x : Operand)
    (ho : o.op = .call { callee := .builtin .append, args := #[s, x], argTypes := #[35, 35] })
    (base : Nat) (v : Value) (xs : List Int) (hs : a.eval s = v) (hown : Own w base v xs) (ao : Option Addr) (len cap : Nat) (ys : List Int) (hx : a.eval x = .slice ao len cap) (hb : Bs w ao len cap ys)
    (hlen : xs.length + len ≤ 70368744177664) (hbase : base ≤ w.heap.size)
    (h : ∀ v' w', Own w' base v' (xs ++ ys) → Below base w w' → wpList Try.prog ops Q rest (a.put o.dst v') w') : wpList Try.prog ops Q (o :: rest) a w := by
  obtain ⟨i0, hi, hz0, hz1, hz2⟩ := info_parts info5
  cases ao with
  | none =>
    obtain ⟨rfl, rfl⟩ := hb.2.1.2 rfl
    have hy : ys = [] := List.eq_nil_of_length_eq_zero hb.1
    subst hy
    exact wpList_append_own_none hgd s x 35 ho base 5 i0 1 Try.underlying35 hi v xs.length (bv xs) hs hown hx (h v w (by rwa [List.append_nil]) (Below.refl _ _))
  | some ad =>
    refine wpList_append_own _ hgd s x 35 ho base 5 i0 (.int .u8 0) 1 1 Try.underlying35 hi hz0 hz1 hz2 rfl (by decide) v xs.length (bv xs) hs hown ad len cap (bv ys) hx (by rw [bv_len, hb.1]; omega) (bs_cells hb ad rfl) (bv_one ys)
      (by unfold maxLen; omega) (by omega) hbase ?_
    intro v' w' h1 h2 _
    refine h v' w' ?_ ((Below.refl _ _).grown h2 hbase (fun k hk => (World.ownsRow.lt hown k hk).1))
    unfold Own
    rw [List.length_append, hb.1, show bv (xs ++ ys) = bv xs ++ bv ys from by simp [bv]]
    exact h1

/-- A row of bytes that was written out on the spot. -/
theorem own_lit (w : World) (zs : List Int) (B : Nat) (hB : B ≤ w.heap.size) (arr : Array Value) (ha : arr = (bv zs).toArray) (L : Nat) (hL : zs.length = L) (hm : L ≤ 70368744177664) : Own (w.alloc (.cells arr 5)) B (.slice (some ⟨w.heap.size, 0, none⟩) L L) zs := by
  subst ha hL
  have := World.ownsRow_lit (base := B) (e := 5) (size := 1) w (bv zs).toArray zs.length hB (by unfold maxLen; omega) (by simp [bv])
  simpa [Own] using this

theorem own_keep {w w' : World} {B : Nat} {v : Value} {zs : List Int} (h : Own w B v zs) (hb : Below w.heap.size w w') : Own w' B v zs := by
  obtain ⟨hl, ⟨rfl, hn⟩ | ⟨g, cap, cur, rfl, hg, hh, hnc, hcm, hcs, hx⟩⟩ := h
  · exact ⟨hl, .inl ⟨rfl, hn⟩⟩
  · refine ⟨hl, .inr ⟨g, cap, cur, rfl, hg, ?_, hnc, hcm, hcs, hx⟩⟩
    rw [hb.block g (Array.getElem?_eq_some_iff.1 hh).1]
    exact hh
theorem own_base {w : World} {B C : Nat} {v : Value} {zs : List Int} (h : Own w B v zs) (hc : C ≤ B) : Own w C v zs := by
  obtain ⟨hl, ⟨rfl, hn⟩ | ⟨g, cap, cur, rfl, hg, hh, hnc, hcm, hcs, hx⟩⟩ := h
  · exact ⟨hl, .inl ⟨rfl, hn⟩⟩
  · exact ⟨hl, .inr ⟨g, cap, cur, rfl, Nat.le_trans hc hg, hh, hnc, hcm, hcs, hx⟩⟩

end Go.Proofs.Ytgopcaemgcnapaa.Clep
