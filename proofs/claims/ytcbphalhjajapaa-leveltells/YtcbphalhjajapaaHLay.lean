/- What stands on which level: a look in memory, and how it is filled. No conditions. -/
import Derived.Test.YtcbphalhjajapaaHTouch
import Derived.Test.YtcbphalhjajapaaHOnce
namespace Go.Proofs.Ytcbphalhjajapaa.Clep
open Go.RowKit
set_option linter.unusedVariables false
set_option maxRecDepth 10000
set_option linter.unusedSimpArgs false

theorem oper_append_zz {w : World} {o : Oper} {a : Act} {K : Act → World → Prop} {Q : Exit → Act → World → Prop} (s x : Operand)
    (ho : o.op = .call { callee := .builtin .append, args := #[s, x], argTypes := #[28, 28] })
    (base : Nat) (v : Value) (ns : List Int) (hs : a.eval s = v) (hown : OwnZ w base v ns) (p : Nat) (z : Int) (hx : a.eval x = .slice (some ⟨p, 0, none⟩) 1 1) (hp : Ek w p #[.int .i64 z] 3)
    (hlen : ns.length ≤ 100000) (hbase : base ≤ w.heap.size)
    (h : ∀ v' w', OwnZ w' base v' (ns ++ [z]) → w.grownBy w' v.ownBlock → (v'.ownBlock = v.ownBlock ∨ v'.ownBlock = some w.heap.size) → K (a.put o.dst v') w') : Oper.wp Try.prog o a w K Q := by
  obtain ⟨i0, hi, hz0, hz1, hz2⟩ := info_parts info_int
  obtain ⟨v', w', hr, h2, h3, h4, h5⟩ := run_append_own_at (P := Try.prog) w base 28 o.type 3 i0 (.int .i64 0) 1 8 Try.underlying28 hi hz0 hz1 hz2 rfl (by decide) v ns.length (iv9 ns) hown ⟨p, 0, none⟩ 1 1 [.int .i64 z] rfl (by
    intro j u hu
    match j, hu with
    | 0, hu =>
      simp at hu
      subst hu
      exact hp.cell rfl
    | k + 1, hu => simp at hu) (by
    intro u hu
    simp at hu
    subst hu
    rfl) (by unfold maxLen; omega) (by omega) hbase
  unfold Oper.wp execOp
  simp only [ho, resolve, invoke, builtin, Sem.run_bind, Sem.run_pure, Result.andThen_ok, List.map_toArray, List.map_cons, List.map_nil, hs, hx, hr]
  refine h v' w' ?_ h3 h5
  unfold OwnZ iv9
  simpa [iv9] using h2

/-- The cells of a look. -/
def lkC (F : Value) (d m : Int) (ps : Nat → Value) : Array Value := #[F, .int .u32 d, .int .i32 m, .int .u32 0, ps 0, ps 1, ps 2, ps 3]
def nilP : Nat → Value := fun _ => .slice none 0 0
def updP (ps : Nat → Value) (k : Nat) (v : Value) : Nat → Value := fun j => if j = k then v else ps j
theorem lkC_upd (F : Value) (d m : Int) (ps : Nat → Value) (k : Nat) (hk : k < 4) (v : Value) : (lkC F d m ps).setIfInBounds (4 + k) v = lkC F d m (updP ps k v) := by
  rcases (show k = 0 ∨ k = 1 ∨ k = 2 ∨ k = 3 from by omega) with rfl | rfl | rfl | rfl <;> rfl
theorem lkC_at (F : Value) (d m : Int) (ps : Nat → Value) (k : Nat) (hk : k < 4) : (lkC F d m ps)[4 + k]? = some (ps k) := by
  rcases (show k = 0 ∨ k = 1 ∨ k = 2 ∨ k = 3 from by omega) with rfl | rfl | rfl | rfl <;> rfl
/-- Between the rounds of the first look: the rows so far. -/
structure Lg (w W : World) (b : Nat) (F : Value) (d m : Int) (ps : Nat → Value) (l : List He) (n : Nat) : Prop where
  e : Ek W b (lkC F d m ps) 56
  own : ∀ k, k < 4 → OwnZ W w.heap.size (ps k) (zn (posN l k n))
  ne : ∀ j k, j < 4 → k < 4 → j ≠ k → (ps j).ownBlock = none ∨ (ps j).ownBlock ≠ (ps k).ownBlock
  g : w.grownBy W (some b)
  lt : b < w.heap.size
theorem Lg.keep {w W W' : World} {b : Nat} {F : Value} {d m : Int} {ps : Nat → Value} {l : List He} {n : Nat} (h : Lg w W b F d m ps l n) (hb : Below W.heap.size W W') : Lg w W' b F d m ps l n :=
  ⟨h.e.below hb h.e.lt, fun k hk => xrow_keep (h.own k hk) hb, h.ne, h.g.trans (fgb_below hb _), h.lt⟩
theorem Lg.skip {w W : World} {b : Nat} {F : Value} {d m : Int} {ps : Nat → Value} {l : List He} {n : Nat} (h : Lg w W b F d m ps l n) (hn : ∀ k : Nat, k < 4 → lv l n ≠ (k : Int)) : Lg w W b F d m ps l (n + 1) :=
  ⟨h.e, fun k hk => by rw [posN_succ, if_neg (hn k hk), List.append_nil]; exact h.own k hk, h.ne, h.g, h.lt⟩
theorem ownZ_slice {w : World} {B : Nat} {v : Value} {ns : List Int} (h : OwnZ w B v ns) : ∃ a c, v = .slice a ns.length c := by
  obtain ⟨hl, ⟨rfl, hn⟩ | ⟨g, cap, cur, rfl, _⟩⟩ := h
  · exact ⟨none, 0, by rw [hn]⟩
  · exact ⟨_, _, rfl⟩
/-- A place more on the level k. -/
theorem Lg.app {w W W' : World} {b : Nat} {F : Value} {d m : Int} {ps : Nat → Value} {l : List He} {n k : Nat} {v : Value} (h : Lg w W b F d m ps l n) (hk : k < 4) (hl : lv l n = (k : Int))
    (ho : OwnZ W' w.heap.size v (zn (posN l k n) ++ [(n : Int)])) (hg : W.grownBy W' (ps k).ownBlock) (ha : v.ownBlock = (ps k).ownBlock ∨ v.ownBlock = some W.heap.size) :
    (Ek W' b (lkC F d m ps) 56 ∧ w.grownBy W' (some b)) ∧ Lg w (W'.setCell ⟨b, 4 + k, none⟩ v) b F d m (updP ps k v) l (n + 1) := by
  have hkb : ∀ j q, j < 4 → (ps j).ownBlock = some q → w.heap.size ≤ q ∧ q < W.heap.size := fun j q hj e => World.ownsRow.lt (h.own j hj) q e
  have hb : some b ≠ (ps k).ownBlock := fun e => by have := (hkb k b hk e.symm).1; have := h.lt; omega
  have e1 : Ek W' b (lkC F d m ps) 56 := h.e.gb hg hb
  have e2 := e1.set (4 + k) v
  rw [lkC_upd F d m ps k hk] at e2
  have g2 := fgb_set W' ⟨b, 4 + k, none⟩ v
  have gW : w.grownBy W' (some b) := ⟨hg.os.trans h.g.os, hg.tape.trans h.g.tape, hg.output.trans h.g.output, Nat.le_trans h.g.size hg.size, fun i hi hne => by
    rw [hg.block i (Nat.lt_of_lt_of_le hi h.g.size) (fun e => by have := (hkb k i hk e.symm).1; omega)]
    exact h.g.block i hi hne⟩
  have hj : ∀ j, j < 4 → j ≠ k → OwnZ W' w.heap.size (ps j) (zn (posN l j n)) := fun j hj hne => World.ownsRow.kept (h.own j hj) hg (h.ne j k hj hk hne)
  have hf : ∀ {u : Value} {xs : List Int}, OwnZ W' w.heap.size u xs → OwnZ (W'.setCell ⟨b, 4 + k, none⟩ v) w.heap.size u xs := fun {u xs} hu => ownZ_grown hu g2 (fun q hq => by cases hq; exact h.lt)
  have hnk : ∀ j, j < 4 → j ≠ k → (ps j).ownBlock = none ∨ (ps j).ownBlock ≠ v.ownBlock := fun j hj hne => by
    rcases h.ne j k hj hk hne with e | e
    · exact .inl e
    · rcases ha with e2 | e2
      · exact .inr (by rw [e2]; exact e)
      · cases hq : (ps j).ownBlock with
        | none => exact .inl rfl
        | some q => exact .inr (by rw [e2]; intro e3; have := (hkb j q hj hq).2; have := Option.some.inj e3; omega)
  have hkn : ∀ j, j < 4 → j ≠ k → v.ownBlock = none ∨ v.ownBlock ≠ (ps j).ownBlock := fun j hj hne => by
    rcases hnk j hj hne with e | e
    · cases hv : v.ownBlock with
      | none => exact .inl rfl
      | some q => exact .inr (by rw [e]; simp)
    · exact .inr (fun e2 => e e2.symm)
  refine ⟨⟨e1, gW⟩, ⟨e2, fun j hj' => ?_, fun i j hi hj' hne => ?_, gW.trans g2, h.lt⟩⟩
  · unfold updP
    by_cases e : j = k
    · subst e
      rw [if_pos rfl, posN_succ, if_pos hl, zn_app]
      exact hf ho
    · rw [if_neg e, posN_succ, if_neg (fun e2 => e (by have := hl.symm.trans e2; omega)), List.append_nil]
      exact hf (hj j hj' e)
  · unfold updP
    by_cases ei : i = k
    · subst ei
      rw [if_pos rfl, if_neg (fun e => hne e.symm)]
      exact hkn j hj' (fun e => hne e.symm)
    · rw [if_neg ei]
      by_cases ej : j = k
      · subst ej
        rw [if_pos rfl]
        exact hnk i hi ei
      · rw [if_neg ej]
        exact h.ne i j hi hj' hne

end Go.Proofs.Ytcbphalhjajapaa.Clep
