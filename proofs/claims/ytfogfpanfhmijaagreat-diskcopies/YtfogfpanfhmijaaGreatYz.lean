/- A call of both Disks (the statements' own function Do): Rename. -/
import Derived.Test.YtfogfpanfhmijaaGreatYy
import Derived.Deep.RegionHeldLaw
namespace Go.Proofs.YtfogfpanfhmijaaGreat.Clep
open Go.RowKit Go.Maps
set_option linter.unusedVariables false

/-- Both Disks, and one block beside them that is neither's. -/
def PairX (B bx : Nat) (w : World) (R : Nat) (S : St) (Q : Nat) (T : RSt) : Prop := ∃ P, Both B w R S Q T P ∧ ¬ P bx ∧ bx < w.heap.size ∧ Held (fun i => i < B ∨ i = bx ∨ (P i ∧ i < w.heap.size)) w R S
theorem PairX.of {B : Nat} {w W : World} {R : Nat} {S : St} {Q : Nat} {T : RSt} (p : Pair B w R S Q T) (hb : Below w.heap.size w W) (hl : w.heap.size < W.heap.size) : PairX B w.heap.size W R S Q T := by
  obtain ⟨P, h⟩ := p
  obtain ⟨fv, nv, lv, ov, r⟩ := h.ref
  obtain ⟨G, D, hF⟩ := h.held
  have hz : ∀ i, i < B → i < W.heap.size ∧ G.τ i = 0 := fun i hi => ⟨by have := h.base; omega, (hF i (.inl hi)).2⟩
  have hx : ∀ i, P i ∧ i < W.heap.size → i < W.heap.size ∧ G.τ i = 0 := fun i hi => ⟨hi.2, by
    rcases Nat.lt_or_ge i w.heap.size with hl | hl
    · exact (hF i (.inr ⟨hi.1, hl⟩)).2
    · exact D.top i hl⟩
  refine ⟨fun i => P i ∧ i ≠ w.heap.size, ⟨⟨fv, nv, lv, ov, r.keep (fun i _ hi => hb.block i hi) (fun i hp hi => ⟨hp, by omega⟩)⟩, fun i hi => ⟨h.top i (by omega), by omega⟩, fun i hi => h.low i hi.1, ⟨G, D.below hb, fun i hi => ?_⟩, Nat.le_trans h.base hb.size⟩, fun h => h.2 rfl, hl, ⟨G, D.below hb, fun i hi => ?_⟩⟩
  · rcases hi with hi | hi
    · exact hz i hi
    · exact hx i ⟨hi.1.1, hi.2⟩
  · rcases hi with hi | rfl | hi
    · exact hz i hi
    · exact ⟨hl, D.top _ (Nat.le_refl _)⟩
    · exact hx i ⟨hi.1.1, hi.2⟩
theorem rename_px {B bx : Nat} {W : World} {R : Nat} {S : St} {Q : Nat} {T : RSt} (p : PairX B bx W R S Q T) (r : Rel S T) (hc : T.calls < 1000) (s t : ByteArray) (hs : s.size ≤ 100) (ht : t.size ≤ 100) :
    Calls Tryz.prog 23 #[.pointer (some ⟨R, 0, none⟩), .string s, .string t] W fun e w' => e = .returned (.int .i64 (rnT T s t).1) ∧ PairX B bx w' R (renS S s t).2 Q T ∧ Below B W w' ∧ w'.heap[bx]? = W.heap[bx]? := by
  obtain ⟨P, h, hx, hbl, hd⟩ := p
  refine (rename_h s t (E := (renS S s t).1) (S' := (renS S s t).2) rfl hd (by rw [r.calls]; omega) (by omega) (by omega)).mono ?_
  rintro e w' ⟨rfl, hh, hs'⟩
  obtain ⟨G, D, hF⟩ := hh
  obtain ⟨fv, nv, lv, ov, rf⟩ := h.ref
  refine ⟨by rw [(ren_rel r hc s t).1], ⟨fun i => B ≤ i ∧ i ≠ bx ∧ G.τ i = 0, ⟨⟨fv, nv, lv, ov, rf.keep (fun i hp hi => hs'.block i (.inr (.inr ⟨hp, hi⟩))) (fun i hp hi => ⟨h.low i hp, fun e => hx (e ▸ hp), (hF i (.inr (.inr ⟨hp, hi⟩))).2⟩)⟩, fun i hi => ⟨Nat.le_trans h.base (Nat.le_trans hs'.size hi), by have := hs'.size; omega, D.top i hi⟩, fun i hi => hi.1, ⟨G, D, fun i hi => ?_⟩, Nat.le_trans h.base hs'.size⟩, fun h => h.2.1 rfl, Nat.lt_of_lt_of_le hbl hs'.size, ⟨G, D, fun i hi => ?_⟩⟩, hs'.below fun i hi => .inl hi, hs'.block bx (.inr (.inl rfl))⟩
  · rcases hi with hi | hi
    · exact hF i (.inl hi)
    · exact ⟨hi.2, hi.1.2.2⟩
  · rcases hi with hi | rfl | hi
    · exact hF i (.inl hi)
    · exact hF i (.inr (.inl rfl))
    · exact ⟨hi.2, hi.1.2.2⟩
theorem rename_rx {B bx : Nat} {W : World} {R : Nat} {S : St} {Q : Nat} {T : RSt} (p : PairX B bx W R S Q T) (hc : T.calls < 1000) (s t : ByteArray) (hs : s.size ≤ 100) (ht : t.size ≤ 100) :
    Calls Tryz.prog 24 #[.pointer (some ⟨Q, 0, none⟩), .string s, .string t] W fun e w' => e = .returned (.int .i64 (rnT T s t).1) ∧ Pair B w' R S Q (rnT T s t).2 ∧ Below B W w' ∧ w'.heap[bx]? = W.heap[bx]? := by
  obtain ⟨P, h, hx, hbl, hd⟩ := p
  obtain ⟨fv, nv, lv, ov, rf⟩ := h.ref
  refine (rnT_any Q T P fv nv lv ov s t W rf hs ht hc h.top).mono ?_
  rintro e w' ⟨rfl, hr, hg⟩
  have hb := h.refd hr hg
  exact ⟨rfl, ⟨P, hb.1⟩, hb.2, hg.block bx hbl hx⟩
theorem box_cell {w w' : World} {bx i : Nat} {v : Value} (h : w'.heap[bx]? = w.heap[bx]?) (hc : w.cell? ⟨bx, i, none⟩ = some v) : w'.cell? ⟨bx, i, none⟩ = some v := (World.cell?_of_block (w := w) h).trans hc

set_option maxHeartbeats 4000000 in
set_option maxRecDepth 8000 in
theorem do3 {B : Nat} {w : World} {R : Nat} {S : St} {Q : Nat} {T : RSt} (p : Pair B w R S Q T) (r : Rel S T) (nm : NmOk T) (hc : T.calls < 1000) (n : Int) (a b : ByteArray) (ka : Option Addr) (kl kc : Nat) (ha : a.size ≤ 100) (hb : b.size ≤ 100) :
    Calls Tryz.prog 8 #[.pointer (some ⟨R, 0, none⟩), .pointer (some ⟨Q, 0, none⟩), opV 3 n a b (.slice ka kl kc)] w fun e w' => e = .returned (.bool true) ∧ Done B R Q T w w' := by
  have cR := hide (fun W S' (p' : PairX B w.heap.size W R S' Q T) => rename_rx p' hc a b ha hb)
  have FIN := hide (show ∀ w', Pair B w' R (renS S a b).2 Q (rnT T a b).2 → Below B w w' → Done B R Q T w w' from fun w' p' b' => ⟨_, _, (ren_rel r hc a b).2, nm_rename nm a b, renamed_le T a b, p', b'⟩)
  have hbase := p.base
  unfold opV
  have BX := hide ((Below.refl w.heap.size w).alloc (Nat.le_refl _) (.cells #[.int .i64 3, .int .i64 n, .string a, .string b, .slice ka kl kc] 30))
  have x2 : (w.alloc (.cells #[.int .i64 3, .int .i64 n, .string a, .string b, .slice ka kl kc] 30)).cell? ⟨w.heap.size, 2, none⟩ = some (.string a) := cell_of (MapKept.heap_alloc w _).1 rfl
  have x3 : (w.alloc (.cells #[.int .i64 3, .int .i64 n, .string a, .string b, .slice ka kl kc] 30)).cell? ⟨w.heap.size, 3, none⟩ = some (.string b) := cell_of (MapKept.heap_alloc w _).1 rfl
  have hbx : w.heap.size < (w.alloc (.cells #[.int .i64 3, .int .i64 n, .string a, .string b, .slice ka kl kc] 30)).heap.size := by simp
  have cP := hide (rename_px (PairX.of p BX.out.drew hbx) r hc a b ha hb)
  generalize (rnT T a b).1 = E at *
  generalize (rnT T a b).2 = T' at *
  generalize (renS S a b).2 = S' at *
  clear p
  go_enter Tryz.func8, Tryz.ntmps8
  go_wp2_with fail
  generalize w.alloc (.cells #[.int .i64 3, .int .i64 n, .string a, .string b, .slice ka kl kc] 30) = wA at *
  have BD := hide BX.out.drew
  have KX := hide (show ∀ w1 : World, w1.heap[w.heap.size]? = wA.drew.heap[w.heap.size]? → w1.cell? ⟨w.heap.size, 2, none⟩ = some (.string a) ∧ w1.cell? ⟨w.heap.size, 3, none⟩ = some (.string b) from fun w1 k1 => ⟨box_cell (w := wA.drew) k1 x2, box_cell (w := wA.drew) k1 x3⟩)
  have x2' : wA.drew.cell? ⟨w.heap.size, 2, none⟩ = some (.string a) := x2
  have x3' : wA.drew.cell? ⟨w.heap.size, 3, none⟩ = some (.string b) := x3
  have X0 := And.intro x2' x3'
  generalize w.heap.size = bx at *
  go_region_held_law (fun W => W.cell? ⟨bx, 2, none⟩ = some (.string a) ∧ W.cell? ⟨bx, 3, none⟩ = some (.string b))
    (with_reducible assumption)
    (first
      | (go_at_call 23; refine cP.out.mono ?_; rintro e w1 ⟨rfl, p1, b1, k1⟩; have X1 := KX.out w1 k1)
      | (go_at_call 24; refine (cR.out _ _ p1).mono ?_; rintro e w2 ⟨rfl, p2, b2, k2⟩; have X2 := KX.out w2 (k2.trans k1)))
  all_goals
    have HP2 := hide p2
    have HB2 := hide ((BD.out.mono hbase).trans (b1.trans b2))
    clear p1 p2 b1 b2 k1 k2
    go_wp2
    go_ret
    exact ⟨rfl, FIN.out _ HP2.out HB2.out⟩

end Go.Proofs.YtfogfpanfhmijaaGreat.Clep
