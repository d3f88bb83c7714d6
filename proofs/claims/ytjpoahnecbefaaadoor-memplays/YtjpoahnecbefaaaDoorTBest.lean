/- Of those of one place the one that wins: a rising list of what was put is one, in whatever order it was put. No conditions. -/
import Derived.Test.YtjpoahnecbefaaaDoorTUse
namespace Go.Proofs.YtjpoahnecbefaaaDoor.Clep
open Go.RowKit
set_option linter.unusedVariables false

/-- What Put makes of the items alone. -/
def putL (x : It) : List It → List It
  | [] => [x]
  | y :: r => if y.less x then y :: putL x r else if y.same x then (if x.wins y then x :: r else y :: r) else x :: y :: r
theorem putW_L (x : It) (h : Nat) : ∀ ws : List (It × Nat), (putW x h ws).2.map Prod.fst = putL x (ws.map Prod.fst)
  | [] => rfl
  | (y, g) :: r => by
    show List.map Prod.fst (if y.less x then ((putW x h r).1, (y, g) :: (putW x h r).2) else _).2 = if y.less x then _ else _
    cases y.less x with
    | true => simp only [if_true, List.map_cons, putW_L x h r]
    | false =>
      rw [if_neg Bool.false_ne_true, if_neg Bool.false_ne_true]
      cases y.same x with
      | true =>
        rw [if_pos rfl, if_pos rfl]
        cases x.wins y with
        | true => rfl
        | false => rfl
      | false => rfl
theorem putL_mem (x : It) : ∀ (l : List It) (z : It), z ∈ putL x l → z = x ∨ z ∈ l
  | [], z, h => by simp [putL] at h; exact .inl h
  | y :: r, z, h => by
    unfold putL at h
    cases hy : y.less x with
    | true =>
      rw [hy, if_pos rfl] at h
      rcases List.mem_cons.1 h with e | e
      · exact .inr (by simp [e])
      · rcases putL_mem x r z e with e | e
        · exact .inl e
        · exact .inr (by simp [e])
    | false =>
      rw [hy, if_neg Bool.false_ne_true] at h
      cases hs : y.same x with
      | true =>
        rw [hs, if_pos rfl] at h
        cases hw : x.wins y with
        | true =>
          rw [hw, if_pos rfl] at h
          rcases List.mem_cons.1 h with e | e
          · exact .inl e
          · exact .inr (by simp [e])
        | false =>
          rw [hw, if_neg Bool.false_ne_true] at h
          exact .inr h
      | false =>
        rw [hs, if_neg Bool.false_ne_true] at h
        rcases List.mem_cons.1 h with e | e
        · exact .inl e
        · exact .inr e
theorem putL_len (x : It) : ∀ (l : List It), (putL x l).length ≤ l.length + 1
  | [] => by simp [putL]
  | y :: r => by
    unfold putL
    have := putL_len x r
    split
    · simp; omega
    · split
      · split <;> simp
      · simp
theorem putL_rise (x : It) : ∀ (l : List It), Rise l → Rise (putL x l)
  | [], h => by unfold putL Rise; simp
  | y :: r, h => by
    have h' := List.pairwise_cons.1 (show List.Pairwise _ (y :: r) from h)
    unfold putL
    cases hy : y.less x with
    | true =>
      rw [if_pos rfl]
      refine List.pairwise_cons.2 ⟨fun z hz => ?_, putL_rise x r h'.2⟩
      rcases putL_mem x r z hz with rfl | e
      · exact hy
      · exact h'.1 z e
    | false =>
      rw [if_neg Bool.false_ne_true]
      cases hs : y.same x with
      | true =>
        rw [if_pos rfl]
        cases hw : x.wins y with
        | true =>
          rw [if_pos rfl]
          refine List.pairwise_cons.2 ⟨fun z hz => ?_, h'.2⟩
          refine less_same (b := y) ?_ (h'.1 z hz)
          rw [same_iff] at *; omega
        | false => rw [if_neg Bool.false_ne_true]; exact h
      | false =>
        rw [if_neg Bool.false_ne_true]
        have hxy : x.less y = true := tri y x hs hy
        refine List.pairwise_cons.2 ⟨fun z hz => ?_, h⟩
        rcases List.mem_cons.1 hz with rfl | e
        · exact hxy
        · exact less_trans hxy (h'.1 z e)
/-- y has x's place, and x does not win against it. -/
def top (y x : It) : Prop := y.same x = true ∧ x.wins y = false
theorem top_iff {y x : It} : top y x ↔ (y.S = x.S ∧ y.K = x.K ∧ y.T = x.T) ∧ ¬ (y.V < x.V ∨ x.V = y.V ∧ y.X < x.X) := by
  unfold top; rw [same_iff, nwins_iff]
theorem top_refl (x : It) : top x x := by rw [top_iff]; omega
theorem top_trans {a b c : It} (h1 : top a b) (h2 : top b c) : top a c := by rw [top_iff] at *; omega
theorem top_anti {a b : It} (h1 : top a b) (h2 : top b a) : a = b := by
  rw [top_iff] at *
  apply it_ext <;> omega
theorem putL_top (x : It) : ∀ (l : List It), (∃ y ∈ putL x l, top y x) ∧ ∀ z ∈ l, ∃ y ∈ putL x l, top y z
  | [] => ⟨⟨x, by simp [putL], top_refl x⟩, by simp⟩
  | y :: r => by
    have ih := putL_top x r
    unfold putL
    cases hy : y.less x with
    | true =>
      rw [if_pos rfl]
      refine ⟨?_, fun z hz => ?_⟩
      · obtain ⟨u, h1, h2⟩ := ih.1
        exact ⟨u, by simp [h1], h2⟩
      · rcases List.mem_cons.1 hz with rfl | e
        · exact ⟨z, by simp, top_refl z⟩
        · obtain ⟨u, h1, h2⟩ := ih.2 z e
          exact ⟨u, by simp [h1], h2⟩
    | false =>
      rw [if_neg Bool.false_ne_true]
      cases hs : y.same x with
      | true =>
        rw [if_pos rfl]
        cases hw : x.wins y with
        | true =>
          rw [if_pos rfl]
          refine ⟨⟨x, by simp, top_refl x⟩, fun z hz => ?_⟩
          rcases List.mem_cons.1 hz with rfl | e
          · refine ⟨x, by simp, ?_⟩
            rw [top_iff]; rw [wins_iff] at hw; rw [same_iff] at hs; omega
          · exact ⟨z, by simp [e], top_refl z⟩
        | false =>
          rw [if_neg Bool.false_ne_true]
          exact ⟨⟨y, by simp, hs, hw⟩, fun z hz => ⟨z, hz, top_refl z⟩⟩
      | false =>
        rw [if_neg Bool.false_ne_true]
        exact ⟨⟨x, by simp, top_refl x⟩, fun z hz => ⟨z, List.mem_cons_of_mem _ hz, top_refl z⟩⟩
/-- The list is the best of what M says. -/
def Best (M : It → Prop) (l : List It) : Prop := Rise l ∧ (∀ x ∈ l, M x) ∧ ∀ x, M x → ∃ y ∈ l, top y x
theorem best_nil : Best (fun _ => False) [] := ⟨List.Pairwise.nil, by simp, fun _ h => h.elim⟩
theorem best_congr {M N : It → Prop} {l : List It} (h : Best M l) (e : ∀ x, M x ↔ N x) : Best N l :=
  ⟨h.1, fun x hx => (e x).1 (h.2.1 x hx), fun x hx => h.2.2 x ((e x).2 hx)⟩
theorem best_mem {M : It → Prop} {l m : List It} (h : Best M l) (h' : Best M m) {x : It} (hx : x ∈ l) : x ∈ m := by
  obtain ⟨y, hy, h1⟩ := h'.2.2 x (h.2.1 x hx)
  obtain ⟨z, hz, h2⟩ := h.2.2 y (h'.2.1 y hy)
  have h3 := top_trans h2 h1
  have e : z = x := rise_same h.1 hz hx h3.1
  subst e
  have e : y = z := top_anti h1 h2
  rw [← e]; exact hy
theorem best_unique {M : It → Prop} {l m : List It} (h : Best M l) (h' : Best M m) : l = m :=
  rise_ext h.1 h'.1 fun x => ⟨best_mem h h', best_mem h' h⟩
theorem best_put {M : It → Prop} {l : List It} (h : Best M l) (x : It) : Best (fun z => M z ∨ z = x) (putL x l) := by
  refine ⟨putL_rise x l h.1, fun z hz => ?_, fun z hz => ?_⟩
  · rcases putL_mem x l z hz with e | e
    · exact .inr e
    · exact .inl (h.2.1 z e)
  · rcases hz with e | e
    · obtain ⟨y, hy, h1⟩ := h.2.2 z e
      obtain ⟨u, hu, h2⟩ := (putL_top x l).2 y hy
      exact ⟨u, hu, top_trans h2 h1⟩
    · rw [e]; exact (putL_top x l).1
theorem best_putA {M : It → Prop} {ws : List (It × Nat)} (h : Best M (ws.map Prod.fst)) (x : It) (n : Int) (hn : 1 ≤ n ∧ n ≤ 6) : Best (fun z => M z ∨ (z = x ∧ z.ok = true)) ((putA x n ws).2.map Prod.fst) := by
  unfold putA
  cases hx : x.ok with
  | true =>
    rw [if_pos ⟨rfl, hn⟩]
    show Best _ ((putW x n.toNat ws).2.map Prod.fst)
    rw [putW_L]
    refine best_congr (best_put h x) fun z => ?_
    constructor
    · rintro (e | e)
      · exact .inl e
      · exact .inr ⟨e, by rw [e]; exact hx⟩
    · rintro (e | e)
      · exact .inl e
      · exact .inr e.1
  | false =>
    rw [if_neg (by simp)]
    refine best_congr h fun z => ?_
    constructor
    · exact .inl
    · rintro (e | ⟨e, e'⟩)
      · exact e
      · rw [e, hx] at e'; cases e'
theorem putA_len (x : It) (n : Int) (ws : List (It × Nat)) : (putA x n ws).2.length ≤ ws.length + 1 := by
  unfold putA
  split
  · show (putW x n.toNat ws).2.length ≤ _
    have := putL_len x (ws.map Prod.fst)
    rw [← putW_L x n.toNat, List.length_map, List.length_map] at this
    exact this
  · simp
/-- A row turned by a number has the same items. -/
theorem turn_mem (l : List It) (n c : Nat) (hn : n ≤ l.length) (z : It) : (∃ j, j < n ∧ l[(j + c) % n]? = some z) ↔ z ∈ l.take n := by
  constructor
  · rintro ⟨j, hj, h⟩
    have hlt : (j + c) % n < n := Nat.mod_lt _ (by omega)
    rw [List.mem_iff_getElem?]
    exact ⟨(j + c) % n, by rw [List.getElem?_take_of_lt hlt]; exact h⟩
  · intro h
    obtain ⟨k, hk⟩ := List.mem_iff_getElem?.1 h
    have hkn : k < n := by
      have := (List.getElem?_eq_some_iff.1 hk).1
      rw [List.length_take] at this
      omega
    rw [List.getElem?_take_of_lt hkn] at hk
    have hcn : c % n < n := Nat.mod_lt _ (by omega)
    by_cases hkc : c % n ≤ k
    · refine ⟨k - c % n, by omega, ?_⟩
      have e : (k - c % n + c) % n = k := by
        rw [Nat.add_mod, Nat.mod_eq_of_lt (show k - c % n < n by omega), show k - c % n + c % n = k from by omega, Nat.mod_eq_of_lt hkn]
      rw [e]; exact hk
    · refine ⟨k + n - c % n, by omega, ?_⟩
      have e : (k + n - c % n + c) % n = k := by
        rw [Nat.add_mod, Nat.mod_eq_of_lt (show k + n - c % n < n by omega), show k + n - c % n + c % n = k + n from by omega, Nat.add_mod_right, Nat.mod_eq_of_lt hkn]
      rw [e]; exact hk

end Go.Proofs.YtjpoahnecbefaaaDoor.Clep
