/- Two Mems side by side; what many Applies come to. Conditions: fewer than 2^30 items in all; the table of math/bits reads as its initialiser lays it. -/
import Derived.Test.YtjpoahnecbefaaaDoorMItems
import Derived.Test.YtjpoahnecbefaaaDoorSLaw
namespace Go.Proofs.YtjpoahnecbefaaaDoor.Clep
open Go.RowKit
set_option linter.unusedVariables false

theorem best_putAll : ∀ (l : List It) (M : It → Prop) (ws : List (It × Nat)), Best M (ws.map Prod.fst) → Best (fun z => M z ∨ (z ∈ l ∧ z.ok = true)) ((putAll l ws).map Prod.fst)
  | [], M, ws, h => best_congr h fun z => by simp
  | x :: r, M, ws, h => by
    have hh := hgt_le x.S x.K x.T
    have h1 := best_putA h x (hgt x.S x.K x.T : Nat) (by omega)
    refine best_congr (best_putAll r _ _ h1) fun z => ?_
    constructor
    · rintro ((e | ⟨e, e'⟩) | ⟨e, e'⟩)
      · exact .inl e
      · exact .inr ⟨by simp [e], e'⟩
      · exact .inr ⟨by simp [e], e'⟩
    · rintro (e | ⟨e, e'⟩)
      · exact .inl (.inl e)
      · rcases List.mem_cons.1 e with e | e
        · exact .inl (.inr ⟨e, e'⟩)
        · exact .inr ⟨e, e'⟩
theorem best_putAll0 (l : List It) : Best (fun z => z ∈ l ∧ z.ok = true) ((putAll l []).map Prod.fst) :=
  best_congr (best_putAll l _ [] best_nil) fun z => by simp
/-- Batches one by one, or all at once, come to the same; twice changes nothing. -/
theorem joins_same (a b : List It) : (putAll b (putAll a [])).map Prod.fst = (putAll a (putAll (b ++ a) [])).map Prod.fst := by
  refine best_unique (best_putAll b _ _ (best_putAll0 a)) (best_congr (best_putAll a _ _ (best_putAll0 (b ++ a))) fun z => ?_)
  simp only [List.mem_append]
  constructor
  · rintro (⟨e | e, e'⟩ | ⟨e, e'⟩)
    · exact .inr ⟨e, e'⟩
    · exact .inl ⟨e, e'⟩
    · exact .inl ⟨e, e'⟩
  · rintro (⟨e, e'⟩ | ⟨e, e'⟩)
    · exact .inr ⟨e, e'⟩
    · exact .inl ⟨.inl e, e'⟩

/-- Two Mems that were made since w. -/
structure Two (w W : World) (X Y : Nat) (wx wy : List (It × Nat)) : Prop where
  ex : ∃ P Q : Nat → Prop, Mm W X P false wx ∧ Mm W Y Q false wy ∧ (∀ b, P b → ¬ Q b) ∧ (∀ b, P b → w.heap.size ≤ b) ∧ (∀ b, Q b → w.heap.size ≤ b)
  bel : Below w.heap.size w W
  tab : Tab W
  w0 : 0 < w.heap.size
theorem Two.swap {w W : World} {X Y : Nat} {wx wy : List (It × Nat)} (h : Two w W X Y wx wy) : Two w W Y X wy wx := by
  obtain ⟨P, Q, h1, h2, h3, h4, h5⟩ := h.ex
  exact ⟨⟨Q, P, h2, h1, fun b hb hb' => h3 b hb' hb, h5, h4⟩, h.bel, h.tab, h.w0⟩
theorem Two.keep {w W W' : World} {X Y : Nat} {wx wy : List (It × Nat)} (h : Two w W X Y wx wy) (hb : Below W.heap.size W W') : Two w W' X Y wx wy := by
  obtain ⟨P, Q, h1, h2, h3, h4, h5⟩ := h.ex
  exact ⟨⟨P, Q, h1.keep hb, h2.keep hb, h3, h4, h5⟩, bmore h.bel hb, h.tab.keep hb, h.w0⟩
/-- Apply of one of two: what is handed in was there ahead of both, or is newer than all that is theirs. -/
theorem two_apply (w W : World) (X Y : Nat) (wx wy : List (It × Nat)) (h : Two w W X Y wx wy) (a : Option Addr) (n c : Nat) (l : List It) (hI : Is W a n c l) (hn : n ≤ 1000) (hwx : wx.length ≤ 1000000) (hnew : 0 < n → ∀ x, a = some x → x.block < w.heap.size ∨ ∃ W0 : World, Two w W0 X Y wx wy ∧ Below W0.heap.size W0 W ∧ W0.heap.size ≤ x.block) :
    Calls Tryd.prog 9 #[.pointer (some ⟨X, 0, none⟩), .slice a n c] W fun e W' => e = .returned (.int .i64 (applyE false l)) ∧ Two w W' X Y (applyW false l wx) wy := by
  have key : ∃ P Q : Nat → Prop, (Mm W X P false wx ∧ Mm W Y Q false wy ∧ (∀ b, P b → ¬ Q b) ∧ (∀ b, P b → w.heap.size ≤ b) ∧ (∀ b, Q b → w.heap.size ≤ b)) ∧ (0 < n → ∀ x, a = some x → ¬ P x.block) := by
    by_cases hp : 0 < n
    · cases a with
      | none =>
        obtain ⟨P, Q, q⟩ := h.ex
        exact ⟨P, Q, q, fun _ x hx => by cases hx⟩
      | some x =>
        rcases hnew hp x rfl with hlt | ⟨W0, h0, hb, hle⟩
        · obtain ⟨P, Q, q⟩ := h.ex
          exact ⟨P, Q, q, fun _ y hy e => by cases hy; have := q.2.2.2.1 _ e; omega⟩
        · obtain ⟨P, Q, q1, q2, q3, q4, q5⟩ := h0.ex
          exact ⟨P, Q, ⟨q1.keep hb, q2.keep hb, q3, q4, q5⟩, fun _ y hy e => by cases hy; have := q1.lt _ e; omega⟩
    · obtain ⟨P, Q, q⟩ := h.ex
      exact ⟨P, Q, q, fun hp' => absurd hp' hp⟩
  obtain ⟨P, Q, ⟨h1, h2, h3, h4, h5⟩, hnP⟩ := key
  have h0 := h.w0
  refine (mapply_h W X P false wx a n c l h1 hI (by omega) (by omega) hnP h.tab (fun e => by have := h4 _ e; omega)).mono ?_
  rintro e W' ⟨rfl, hm, hc⟩
  have hs := h.bel.size
  refine ⟨rfl, ⟨_, Q, hm, h2.ch hc (fun b hb hb' => h3 b hb' hb), fun b hb hb' => ?_, fun b hb => ?_, h5⟩, Below.ch h.bel hc hs h4, h.tab.ch hc (fun e => by have := h4 _ e; omega), h0⟩
  · rcases hb with e | e
    · exact h3 b e hb'
    · have := h2.lt b hb'; omega
  · rcases hb with e | e
    · exact h4 b e
    · omega
theorem two_items (w W : World) (X Y : Nat) (wx wy : List (It × Nat)) (h : Two w W X Y wx wy) (hwx : wx.length ≤ 1000000) (m : List It) (hm : wx.map Prod.fst = m) :
    Calls Tryd.prog 11 #[.pointer (some ⟨X, 0, none⟩)] W (AnsO m W) := by
  obtain ⟨P, Q, h1, h2, h3, h4, h5⟩ := h.ex
  exact mitems_ho W X P false wx h1 (by omega) m hm

end Go.Proofs.YtjpoahnecbefaaaDoor.Clep
