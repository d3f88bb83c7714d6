/- A region that draws its order over three calls, one behind the other, and three variables that are made: whichever comes first, the end is the same. Conditions: what each operation does, said once. -/
import Derived.Test.YtfmofkkjnepbcaaISome
namespace Go.Proofs.Ytfmofkkjnepbcaa.Clep
open Go.RowKit
set_option linter.unusedVariables false

/-- Which of the 42 operations have come up: c of the calls, and of the variables those that are said. -/
def bit (c : Nat) (x y z : Bool) (i : Nat) : Bool := if i = 11 then decide (1 ≤ c) else if i = 23 then decide (2 ≤ c) else if i = 35 then decide (3 ≤ c) else if i = 36 then x else if i = 37 then y else if i = 38 then z else decide (i < 39)
def Lf (c : Nat) (x y z : Bool) : Array Bool := ((List.range 42).map (bit c x y z)).toArray
theorem lf11 : ∀ x y z, (Lf 0 x y z).setIfInBounds 11 true = Lf 1 x y z := by decide +kernel
theorem lf23 : ∀ x y z, (Lf 1 x y z).setIfInBounds 23 true = Lf 2 x y z := by decide +kernel
theorem lf35 : ∀ x y z, (Lf 2 x y z).setIfInBounds 35 true = Lf 3 x y z := by decide +kernel
theorem lf36 : ∀ (c : Fin 4) y z, (Lf c.val false y z).setIfInBounds 36 true = Lf c true y z := by decide +kernel
theorem lf37 : ∀ (c : Fin 4) x z, (Lf c.val x false z).setIfInBounds 37 true = Lf c x true z := by decide +kernel
theorem lf38 : ∀ (c : Fin 4) x y, (Lf c.val x y false).setIfInBounds 38 true = Lf c x y true := by decide +kernel
/-- Which may come up next. -/
def rsf (c : Nat) (x y z : Bool) : List Nat := (if c = 0 then [11] else if c = 1 then [23] else if c = 2 then [35] else []) ++ (if x then [] else [36]) ++ (if y then [] else [37]) ++ (if z then [] else [38])
theorem mem_rsf {c : Nat} {x y z : Bool} {i : Nat} (h : i ∈ rsf c x y z) : (c = 0 ∧ i = 11) ∨ (c = 1 ∧ i = 23) ∨ (c = 2 ∧ i = 35) ∨ (x = false ∧ i = 36) ∨ (y = false ∧ i = 37) ∨ (z = false ∧ i = 38) := by
  unfold rsf at h
  simp only [List.mem_append] at h
  rcases h with ((h | h) | h) | h
  · by_cases h0 : c = 0
    · rw [if_pos h0] at h; exact .inl ⟨h0, List.mem_singleton.1 h⟩
    · rw [if_neg h0] at h
      by_cases h1 : c = 1
      · rw [if_pos h1] at h; exact .inr (.inl ⟨h1, List.mem_singleton.1 h⟩)
      · rw [if_neg h1] at h
        by_cases h2 : c = 2
        · rw [if_pos h2] at h; exact .inr (.inr (.inl ⟨h2, List.mem_singleton.1 h⟩))
        · rw [if_neg h2] at h; cases h
  · cases x with
    | true => cases h
    | false => exact .inr (.inr (.inr (.inl ⟨rfl, List.mem_singleton.1 h⟩)))
  · cases y with
    | true => cases h
    | false => exact .inr (.inr (.inr (.inr (.inl ⟨rfl, List.mem_singleton.1 h⟩))))
  · cases z with
    | true => cases h
    | false => exact .inr (.inr (.inr (.inr (.inr ⟨rfl, List.mem_singleton.1 h⟩))))
theorem rsf_ne (c : Nat) (x y z : Bool) (hc : c ≤ 3) (h : ¬ (c = 3 ∧ x = true ∧ y = true ∧ z = true)) : rsf c x y z ≠ [] := by
  have hc4 : c = 0 ∨ c = 1 ∨ c = 2 ∨ c = 3 := by omega
  unfold rsf
  rcases hc4 with rfl | rfl | rfl | rfl <;> cases x <;> cases y <;> cases z <;> simp_all
def nb (b : Bool) : Nat := if b then 0 else 1
theorem nbT : nb true = 0 := rfl
theorem nbF : nb false = 1 := rfl
/-- The frame, with the six that the operations fill. -/
def fr (T : Array Value) (D : List Deferred) (a b c d e f : Value) : Act := ⟨(((((T.setIfInBounds 37 a).setIfInBounds 49 b).setIfInBounds 61 c).setIfInBounds 7 d).setIfInBounds 8 e).setIfInBounds 9 f, D⟩
theorem set_self (T : Array Value) (i : Nat) (v : Value) (h : T[i]? = some v) : T.setIfInBounds i v = T := by
  apply Array.ext_getElem?
  intro j
  rw [Array.getElem?_setIfInBounds]
  split
  · rename_i hij
    subst hij
    rw [h]
    have := (Array.getElem?_eq_some_iff.1 h).1
    simp [this]
  · rfl
def ptr (p : Nat) : Value := .pointer (some ⟨p, 0, none⟩)
/-- The block p, made since H, holds an item of noughts. -/
def Gd (H : Nat) (w : World) (p : Nat) : Prop := H ≤ p ∧ Vx w p 0 0 0 0 0
theorem Gd.keep {H : Nat} {w w' : World} {p : Nat} (h : Gd H w p) (hb : Below w.heap.size w w') : Gd H w' p := ⟨h.1, h.2.grown (gb_below hb none) (by simp)⟩
def zI : Obj := Obj.cells #[Value.int IntKind.i64 0, Value.int IntKind.i64 0, Value.int IntKind.u64 0, Value.int IntKind.u64 0, Value.int IntKind.i64 0] 24

def sel (b : Bool) (v : Value) : Value := if b then v else undef

section
variable {P : Program} {md : Region.Mode} {ops : Array Oper} {Q : Exit → Act → World → Prop} {S : World → Prop} {T : Array Value} {D : List Deferred} {A B C : Value} {H F : Nat}

theorem six_core (hready : ∀ (c : Fin 4) (x y z : Bool), ¬ (c = 3 ∧ x = true ∧ y = true ∧ z = true) → Region.ready md ops (Lf c.val x y z) = rsf c.val x y z)
    (hH : ∀ w, S w → H ≤ w.heap.size)
    (o11 : ∀ (b c d e f : Value) (w : World) (K : Act → World → Prop), S w → (∀ w', Below w.heap.size w w' → S w' → K (fr T D A b c d e f) w') → wpOp P ops Q 11 K (fr T D undef b c d e f) w)
    (o23 : ∀ (a c d e f : Value) (w : World) (K : Act → World → Prop), S w → (∀ w', Below w.heap.size w w' → S w' → K (fr T D a B c d e f) w') → wpOp P ops Q 23 K (fr T D a undef c d e f) w)
    (o35 : ∀ (a b d e f : Value) (w : World) (K : Act → World → Prop), S w → (∀ w', Below w.heap.size w w' → S w' → K (fr T D a b C d e f) w') → wpOp P ops Q 35 K (fr T D a b undef d e f) w)
    (o36 : ∀ (a b c e f : Value) (w : World) (K : Act → World → Prop), S w → (S (w.alloc zI) → K (fr T D a b c (ptr w.heap.size) e f) (w.alloc zI)) → wpOp P ops Q 36 K (fr T D a b c undef e f) w)
    (o37 : ∀ (a b c d f : Value) (w : World) (K : Act → World → Prop), S w → (S (w.alloc zI) → K (fr T D a b c d (ptr w.heap.size) f) (w.alloc zI)) → wpOp P ops Q 37 K (fr T D a b c d undef f) w)
    (o38 : ∀ (a b c d e : Value) (w : World) (K : Act → World → Prop), S w → (S (w.alloc zI) → K (fr T D a b c d e (ptr w.heap.size)) (w.alloc zI)) → wpOp P ops Q 38 K (fr T D a b c d e undef) w)
    (hfin : ∀ (p q r : Nat) (w : World), Gd H w p → Gd H w q → Gd H w r → p ≠ q → p ≠ r → q ≠ r → S w → wpAnyH P md ops Q S F (Lf 3 true true true) (fr T D A B C (ptr p) (ptr q) (ptr r)) w) :
    ∀ (m c : Nat) (x y z : Bool) (p q r : Nat) (w : World), c ≤ 3 → m = (3 - c) + nb x + nb y + nb z → S w → (x = true → Gd H w p) → (y = true → Gd H w q) → (z = true → Gd H w r) →
      (x = true → y = true → p ≠ q) → (x = true → z = true → p ≠ r) → (y = true → z = true → q ≠ r) →
      wpAnyH P md ops Q S (m + F) (Lf c x y z) (fr T D (sel (decide (1 ≤ c)) A) (sel (decide (2 ≤ c)) B) (sel (decide (3 ≤ c)) C) (sel x (ptr p)) (sel y (ptr q)) (sel z (ptr r))) w
  | 0, c, x, y, z, p, q, r, w, hc, hm, hS, gp, gq, gr, n1, n2, n3 => by
    have hc3 : c = 3 := by omega
    have hx : x = true := by cases x with | true => rfl | false => rw [nbF] at hm; omega
    have hy : y = true := by cases y with | true => rfl | false => rw [nbF] at hm; omega
    have hz : z = true := by cases z with | true => rfl | false => rw [nbF] at hm; omega
    subst hc3 hx hy hz
    rw [Nat.zero_add]
    exact hfin p q r w (gp rfl) (gq rfl) (gr rfl) (n1 rfl rfl) (n2 rfl rfl) (n3 rfl rfl) hS
  | m + 1, c, x, y, z, p, q, r, w, hc, hm, hS, gp, gq, gr, n1, n2, n3 => by
    have hnot : ¬ (c = 3 ∧ x = true ∧ y = true ∧ z = true) := by
      rintro ⟨rfl, rfl, rfl, rfl⟩
      rw [nbT] at hm
      omega
    have ih := six_core hready hH o11 o23 o35 o36 o37 o38 hfin m
    have hne := rsf_ne c x y z hc hnot
    rw [show m + 1 + F = (m + F) + 1 from by omega]
    refine wpAnyH_all (hready ⟨c, by omega⟩ x y z (fun h => hnot ⟨congrArg Fin.val h.1, h.2⟩)) hne ?_
    intro i hi
    have ln : ∀ {k : Nat}, Gd H w k → w.heap.size ≠ k := fun h e => by have := h.2.lt; omega
    have gn : Gd H (w.alloc zI) w.heap.size := ⟨hH w hS, vx_new w 0 0 0 0 0⟩
    have ba : Below w.heap.size w (w.alloc zI) := (Below.refl _ w).alloc (Nat.le_refl _) _
    rcases mem_rsf hi with ⟨rfl, rfl⟩ | ⟨rfl, rfl⟩ | ⟨rfl, rfl⟩ | ⟨rfl, rfl⟩ | ⟨rfl, rfl⟩ | ⟨rfl, rfl⟩
    · refine o11 _ _ _ _ _ w _ hS (fun w' hb hS' => ⟨hS', ?_⟩)
      rw [lf11]
      exact ih 1 x y z p q r w' (by omega) (by omega) hS' (fun h => (gp h).keep hb) (fun h => (gq h).keep hb) (fun h => (gr h).keep hb) n1 n2 n3
    · refine o23 _ _ _ _ _ w _ hS (fun w' hb hS' => ⟨hS', ?_⟩)
      rw [lf23]
      exact ih 2 x y z p q r w' (by omega) (by omega) hS' (fun h => (gp h).keep hb) (fun h => (gq h).keep hb) (fun h => (gr h).keep hb) n1 n2 n3
    · refine o35 _ _ _ _ _ w _ hS (fun w' hb hS' => ⟨hS', ?_⟩)
      rw [lf35]
      exact ih 3 x y z p q r w' (by omega) (by omega) hS' (fun h => (gp h).keep hb) (fun h => (gq h).keep hb) (fun h => (gr h).keep hb) n1 n2 n3
    · refine o36 _ _ _ _ _ w _ hS (fun hS' => ⟨hS', ?_⟩)
      rw [lf36 ⟨c, by omega⟩]
      exact ih c true y z w.heap.size q r (w.alloc zI) hc (by rw [nbF] at hm; rw [nbT]; omega) hS' (fun _ => gn) (fun h => (gq h).keep ba) (fun h => (gr h).keep ba) (fun _ h => ln (gq h)) (fun _ h => ln (gr h)) n3
    · refine o37 _ _ _ _ _ w _ hS (fun hS' => ⟨hS', ?_⟩)
      rw [lf37 ⟨c, by omega⟩]
      exact ih c x true z p w.heap.size r (w.alloc zI) hc (by rw [nbF] at hm; rw [nbT]; omega) hS' (fun h => (gp h).keep ba) (fun _ => gn) (fun h => (gr h).keep ba) (fun h _ => (ln (gp h)).symm) n2 (fun _ h => ln (gr h))
    · refine o38 _ _ _ _ _ w _ hS (fun hS' => ⟨hS', ?_⟩)
      rw [lf38 ⟨c, by omega⟩]
      exact ih c x y true p q w.heap.size (w.alloc zI) hc (by rw [nbF] at hm; rw [nbT]; omega) hS' (fun h => (gp h).keep ba) (fun h => (gq h).keep ba) (fun _ => gn) n1 (fun h _ => (ln (gp h)).symm) (fun h _ => (ln (gq h)).symm)

theorem six_any (hready : ∀ (c : Fin 4) (x y z : Bool), ¬ (c = 3 ∧ x = true ∧ y = true ∧ z = true) → Region.ready md ops (Lf c.val x y z) = rsf c.val x y z)
    (hH : ∀ w, S w → H ≤ w.heap.size)
    (o11 : ∀ (b c d e f : Value) (w : World) (K : Act → World → Prop), S w → (∀ w', Below w.heap.size w w' → S w' → K (fr T D A b c d e f) w') → wpOp P ops Q 11 K (fr T D undef b c d e f) w)
    (o23 : ∀ (a c d e f : Value) (w : World) (K : Act → World → Prop), S w → (∀ w', Below w.heap.size w w' → S w' → K (fr T D a B c d e f) w') → wpOp P ops Q 23 K (fr T D a undef c d e f) w)
    (o35 : ∀ (a b d e f : Value) (w : World) (K : Act → World → Prop), S w → (∀ w', Below w.heap.size w w' → S w' → K (fr T D a b C d e f) w') → wpOp P ops Q 35 K (fr T D a b undef d e f) w)
    (o36 : ∀ (a b c e f : Value) (w : World) (K : Act → World → Prop), S w → (S (w.alloc zI) → K (fr T D a b c (ptr w.heap.size) e f) (w.alloc zI)) → wpOp P ops Q 36 K (fr T D a b c undef e f) w)
    (o37 : ∀ (a b c d f : Value) (w : World) (K : Act → World → Prop), S w → (S (w.alloc zI) → K (fr T D a b c d (ptr w.heap.size) f) (w.alloc zI)) → wpOp P ops Q 37 K (fr T D a b c d undef f) w)
    (o38 : ∀ (a b c d e : Value) (w : World) (K : Act → World → Prop), S w → (S (w.alloc zI) → K (fr T D a b c d e (ptr w.heap.size)) (w.alloc zI)) → wpOp P ops Q 38 K (fr T D a b c d e undef) w)
    (hfin : ∀ (p q r : Nat) (w : World), Gd H w p → Gd H w q → Gd H w r → p ≠ q → p ≠ r → q ≠ r → S w → wpAnyH P md ops Q S F (Lf 3 true true true) (fr T D A B C (ptr p) (ptr q) (ptr r)) w)
    (t0 : T[37]? = some undef) (t1 : T[49]? = some undef) (t2 : T[61]? = some undef) (t3 : T[7]? = some undef) (t4 : T[8]? = some undef) (t5 : T[9]? = some undef) (w : World) (hS : S w) (n : Nat) (hn : n = 6 + F) (L : Array Bool) (hL : L = Lf 0 false false false) :
    wpAnyH P md ops Q S n L ⟨T, D⟩ w := by
  subst hn hL
  have h := six_core (T := T) (D := D) hready hH o11 o23 o35 o36 o37 o38 hfin 6 0 false false false 0 0 0 w (by omega) rfl hS (by simp) (by simp) (by simp) (by simp) (by simp) (by simp)
  have e : fr T D (sel (decide (1 ≤ 0)) A) (sel (decide (2 ≤ 0)) B) (sel (decide (3 ≤ 0)) C) (sel false (ptr 0)) (sel false (ptr 0)) (sel false (ptr 0)) = ⟨T, D⟩ := by
    show fr T D undef undef undef undef undef undef = ⟨T, D⟩
    unfold fr
    rw [set_self T 37 undef t0, set_self T 49 undef t1, set_self T 61 undef t2, set_self T 7 undef t3, set_self T 8 undef t4, set_self T 9 undef t5]
  rw [e] at h
  exact h
end

end Go.Proofs.Ytfmofkkjnepbcaa.Clep
