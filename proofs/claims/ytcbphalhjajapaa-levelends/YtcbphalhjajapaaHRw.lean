/- Rows of files that a statement makes, each with two keys of one byte; how many stand on which level. No conditions. -/
import Derived.Test.YtcbphalhjajapaaHFew
import Derived.Test.YtcbphalhjajapaaHOwn
import Derived.Test.YtcbphalhjajapaaMask
namespace Go.Proofs.Ytcbphalhjajapaa.Clep
open Go.RowKit
set_option linter.unusedVariables false
set_option maxRecDepth 10000
set_option linter.unusedSimpArgs false

/-- A row of the statement's own, each file's keys in memory made since. -/
structure RwS (B : Nat) (W : World) (v : Value) (l : List He) : Prop where
  o : OwnH W B v l
  k : ∀ x ∈ l, x.ok W ∧ (∀ p, x.fa = some p → some p.block ≠ v.ownBlock ∧ p.block < W.heap.size) ∧ (∀ p, x.ga = some p → some p.block ≠ v.ownBlock ∧ p.block < W.heap.size)
theorem RwS.keep {B : Nat} {W W' : World} {v : Value} {l : List He} (h : RwS B W v l) (hb : Below W.heap.size W W') : RwS B W' v l :=
  ⟨xrow_keep h.o hb, fun x hx => by
    obtain ⟨k1, k2, k3⟩ := h.k x hx
    exact ⟨k1.below hb (Nat.le_refl _), fun p e => ⟨(k2 p e).1, Nat.lt_of_lt_of_le (k2 p e).2 hb.size⟩, fun p e => ⟨(k3 p e).1, Nat.lt_of_lt_of_le (k3 p e).2 hb.size⟩⟩⟩
theorem rws_nil (B : Nat) (W : World) : RwS B W (.slice none 0 0) [] := ⟨ownH_nil _ _, by simp⟩
theorem bs_oneb {W : World} {q : Nat} {A : Int} {T : TypeId} (h : Ek W q #[.int .u8 A] T) (h0 : 0 ≤ A) (h1 : A < 256) : Bs W (some ⟨q, 0, none⟩) 1 1 [A] :=
  ⟨rfl, ⟨Nat.le_refl _, fun e => by cases e⟩, range_of (by intro z hz; rw [List.mem_singleton.1 hz]; omega), fun _ => ⟨q, 0, rfl, fun i hi => by
    obtain rfl : i = 0 := by omega
    exact h.cell rfl⟩⟩
/-- The file that comes next. -/
def nextH (W : World) (N L M b1 b2 : Int) : He := ⟨N, L, some ⟨W.heap.size, 0, none⟩, 1, [b1], some ⟨W.heap.size + 1, 0, none⟩, 1, [b2], M⟩
/-- The memory that holds it. -/
def nextW (W : World) (N L M b1 b2 : Int) : World := ((W.alloc (Obj.cells #[.int .u8 b1] 5)).alloc (Obj.cells #[.int .u8 b2] 5)).alloc (Obj.cells #[.int .i64 N, .int .i64 L, .slice (some ⟨W.heap.size, 0, none⟩) 1 1, .slice (some ⟨W.heap.size + 1, 0, none⟩) 1 1, .int .i64 M] 27)
theorem nextW_size (W : World) (N L M b1 b2 : Int) : (nextW W N L M b1 b2).heap.size = W.heap.size + 3 := by simp [nextW]
theorem nextW_below (W : World) (N L M b1 b2 : Int) : Below W.heap.size W (nextW W N L M b1 b2) := (((Below.refl _ W).alloc (Nat.le_refl _) _).alloc (by simp) _).alloc (by simp <;> omega) _
theorem nextW_ek (W : World) (N L M b1 b2 : Int) : Ek (nextW W N L M b1 b2) W.heap.size #[.int .u8 b1] 5 ∧ Ek (nextW W N L M b1 b2) (W.heap.size + 1) #[.int .u8 b2] 5 ∧ Ek (nextW W N L M b1 b2) (W.heap.size + 2) (nextH W N L M b1 b2).cs.toArray 27 := by
  have n0 := ek_new W #[.int .u8 b1] 5
  have n1 := ek_new (W.alloc (Obj.cells #[.int .u8 b1] 5)) #[.int .u8 b2] 5
  have n2 := ek_new ((W.alloc (Obj.cells #[.int .u8 b1] 5)).alloc (Obj.cells #[.int .u8 b2] 5)) #[.int .i64 N, .int .i64 L, .slice (some ⟨W.heap.size, 0, none⟩) 1 1, .slice (some ⟨W.heap.size + 1, 0, none⟩) 1 1, .int .i64 M] 27
  have s1 : ∀ (x : World) (o : Obj), (x.alloc o).heap.size = x.heap.size + 1 := fun x o => by simp
  rw [s1] at n1
  rw [s1, s1] at n2
  exact ⟨ek_old (ek_old n0 _) _, ek_old n1 _, n2⟩
theorem nextH_ok {W : World} {N L M b1 b2 : Int} (h1 : 0 ≤ b1 ∧ b1 < 256) (h2 : 0 ≤ b2 ∧ b2 < 256) (hN : hi64 N) (hL : hi64 L) (hM : hi64 M) : (nextH W N L M b1 b2).ok (nextW W N L M b1 b2) := by
  obtain ⟨e0, e1, _⟩ := nextW_ek W N L M b1 b2
  exact ⟨⟨bs_oneb e0 h1.1 h1.2, (show 1 ≤ 9223372036854775807 by decide)⟩, ⟨bs_oneb e1 h2.1 h2.2, (show 1 ≤ 9223372036854775807 by decide)⟩, hN, hL, hM⟩
theorem RwS.more {B : Nat} {W w' : World} {v v' : Value} {l : List He} {N L M b1 b2 : Int} (h : RwS B W v l) (h1 : 0 ≤ b1 ∧ b1 < 256) (h2 : 0 ≤ b2 ∧ b2 < 256) (hN : hi64 N) (hL : hi64 L) (hM : hi64 M)
    (ho : OwnH w' B v' (l ++ [nextH W N L M b1 b2])) (hg : (nextW W N L M b1 b2).grownBy w' v.ownBlock) (ha : v'.ownBlock = v.ownBlock ∨ v'.ownBlock = some (nextW W N L M b1 b2).heap.size) : RwS B w' v' (l ++ [nextH W N L M b1 b2]) := by
  have hk := h.keep (nextW_below W N L M b1 b2)
  have hvl : ∀ k, v.ownBlock = some k → k < W.heap.size := fun k e => (World.ownsRow.lt h.o k e).2
  have hne : ∀ p : Addr, some p.block ≠ v.ownBlock → p.block < (nextW W N L M b1 b2).heap.size → some p.block ≠ v'.ownBlock := fun p h1 h2 => by
    rcases ha with e | e
    · rw [e]; exact h1
    · rw [e]; intro e2; have := Option.some.inj e2; omega
  refine ⟨ho, fun x hx => ?_⟩
  rcases List.mem_append.1 hx with hx | hx
  · obtain ⟨k1, k2, k3⟩ := hk.k x hx
    exact ⟨⟨⟨k1.1.1.gb hg (fun p e => (k2 p e).1), k1.1.2⟩, ⟨k1.2.1.1.gb hg (fun p e => (k3 p e).1), k1.2.1.2⟩, k1.2.2⟩, fun p e => ⟨hne p (k2 p e).1 (k2 p e).2, Nat.lt_of_lt_of_le (k2 p e).2 hg.size⟩, fun p e => ⟨hne p (k3 p e).1 (k3 p e).2, Nat.lt_of_lt_of_le (k3 p e).2 hg.size⟩⟩
  · obtain rfl := List.mem_singleton.1 hx
    have k1 := nextH_ok (W := W) h1 h2 hN hL hM
    have hs := nextW_size W N L M b1 b2
    have f1 : ∀ p, (nextH W N L M b1 b2).fa = some p → some p.block ≠ v.ownBlock ∧ p.block < (nextW W N L M b1 b2).heap.size := fun p e => by
      have : p = ⟨W.heap.size, 0, none⟩ := (Option.some.inj e).symm
      subst this
      exact ⟨fun e => by have := hvl _ e.symm; simp only at this; omega, by show W.heap.size < _; omega⟩
    have f2 : ∀ p, (nextH W N L M b1 b2).ga = some p → some p.block ≠ v.ownBlock ∧ p.block < (nextW W N L M b1 b2).heap.size := fun p e => by
      have : p = ⟨W.heap.size + 1, 0, none⟩ := (Option.some.inj e).symm
      subst this
      exact ⟨fun e => by have := hvl _ e.symm; simp only at this; omega, by show W.heap.size + 1 < _; omega⟩
    exact ⟨⟨⟨k1.1.1.gb hg (fun p e => (f1 p e).1), k1.1.2⟩, ⟨k1.2.1.1.gb hg (fun p e => (f2 p e).1), k1.2.1.2⟩, k1.2.2⟩, fun p e => ⟨hne p (f1 p e).1 (f1 p e).2, Nat.lt_of_lt_of_le (f1 p e).2 hg.size⟩, fun p e => ⟨hne p (f2 p e).1 (f2 p e).2, Nat.lt_of_lt_of_le (f2 p e).2 hg.size⟩⟩
theorem RwS.hs {B : Nat} {W : World} {v : Value} {l : List He} (h : RwS B W v l) : ∃ ao cap, v = .slice ao l.length cap ∧ Hs W ao l.length cap l := by
  obtain ⟨ao, cap, h1, _, h2, _⟩ := ownH_hs h.o (fun x hx => (h.k x hx).1)
  exact ⟨ao, cap, h1, h2⟩

/-- How many stand on a level. -/
theorem posN_cnt (l : List He) (k : Nat) : ∀ n, n ≤ l.length → (posN l k n).length = ((l.map He.L).take n).countP (fun z => z == (k : Int))
  | 0, _ => rfl
  | n + 1, h => by
    rw [posN_succ, List.length_append, posN_cnt l k n (by omega), List.take_add_one, List.countP_append]
    congr 1
    have hl : n < (l.map He.L).length := by rw [List.length_map]; omega
    have hv : lv l n = (l.map He.L)[n] := by unfold lv; rw [List.getD_eq_getElem?_getD, List.getElem?_eq_getElem hl]; rfl
    rw [hv, List.getElem?_eq_getElem hl]
    by_cases e : (l.map He.L)[n] = (k : Int)
    · rw [if_pos e]; simp [e]
    · rw [if_neg e, Option.toList, List.countP_cons_of_neg (by simpa using e)]; rfl
theorem pos_cnt (l : List He) (k : Nat) : (pos l k).length = (l.map He.L).countP (fun z => z == (k : Int)) := by
  unfold pos
  rw [posN_cnt l k _ (Nat.le_refl _), List.take_of_length_le (by rw [List.length_map]; exact Nat.le_refl _)]
theorem sumP_all {l : List He} {e : Int} (h : ∀ x ∈ l, x.M = e) : ∀ ps : List Nat, (∀ i ∈ ps, i < l.length) → sumP l ps = e * (ps.length : Int)
  | [], _ => by simp [sumP]
  | i :: r, hi => by
    have h1 : ml l i = e := by
      have hil := hi i (List.mem_cons_self ..)
      rw [ml_of (List.getElem?_eq_getElem hil)]
      exact h _ (List.getElem_mem hil)
    have h2 := sumP_all h r (fun j hj => hi j (List.mem_cons_of_mem _ hj))
    have e1 : sumP l (i :: r) = ml l i + sumP l r := by simp [sumP]
    rw [e1, h1, h2, List.length_cons]
    have : ((r.length + 1 : Nat) : Int) = (r.length : Int) + 1 := by omega
    rw [this, Int.mul_add, Int.mul_one, Int.add_comm]
theorem sumM_all {l : List He} {e : Int} (h : ∀ x ∈ l, x.M = e) (k : Nat) : sumM l k = e * ((pos l k).length : Int) := sumP_all h _ (fun i hi => pos_lt hi)
/-- The levels of the files made so far. -/
def LL (m : Nat → Nat) (k i : Nat) : List Int := (List.range k).flatMap (fun q => List.replicate (m q) (q : Int)) ++ List.replicate i (k : Int)
theorem LL_more (m : Nat → Nat) (k i : Nat) : LL m k (i + 1) = LL m k i ++ [(k : Int)] := by unfold LL; rw [List.replicate_succ', List.append_assoc]
theorem LL_next (m : Nat → Nat) (k : Nat) : LL m k (m k) = LL m (k + 1) 0 := by unfold LL; rw [List.range_succ, List.flatMap_append]; simp
theorem LL_len (m : Nat → Nat) (hm : ∀ q, m q ≤ 7) (k i : Nat) : (LL m k i).length ≤ 7 * k + i := by
  unfold LL
  rw [List.length_append, List.length_replicate]
  have : ((List.range k).flatMap (fun q => List.replicate (m q) (q : Int))).length ≤ 7 * k := by
    induction k with
    | zero => simp
    | succ k ih => rw [List.range_succ, List.flatMap_append, List.length_append]; have := hm k; simp only [List.flatMap_cons, List.flatMap_nil, List.append_nil, List.length_replicate]; omega
  omega
theorem LL_cnt (m : Nat → Nat) : (LL m 4 0).countP (fun z => z == (0 : Int)) = m 0 ∧ (LL m 4 0).countP (fun z => z == (1 : Int)) = m 1 ∧ (LL m 4 0).countP (fun z => z == (2 : Int)) = m 2 := by
  have e : LL m 4 0 = List.replicate (m 0) 0 ++ (List.replicate (m 1) 1 ++ (List.replicate (m 2) 2 ++ List.replicate (m 3) 3)) := by
    simp [LL, List.range_succ]
  rw [e]
  simp [List.countP_append, List.countP_replicate]

end Go.Proofs.Ytcbphalhjajapaa.Clep
