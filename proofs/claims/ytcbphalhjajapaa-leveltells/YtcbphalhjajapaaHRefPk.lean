/- What the document's Pick marks, as Lean's own functions. No conditions. -/
import Derived.Test.YtcbphalhjajapaaHPl
import Derived.Test.YtcbphalhjajapaaHRefOver
import Derived.Test.YtcbphalhjajapaaHInvG
namespace Go.Proofs.Ytcbphalhjajapaa.Clep
open Go.RowKit
set_option linter.unusedVariables false
set_option linter.unusedSimpArgs false

theorem over_low (l : List He) : (low l = none → overE l = []) ∧ (∀ k, low l = some k → ∃ r, overE l = (k : Int) :: r) := by
  rw [ovr_three]
  unfold low
  rw [show List.range 3 = [0, 1, 2] from rfl]
  cases h0 : ovr l 0 <;> cases h1 : ovr l 1 <;> cases h2 : ovr l 2 <;> simp [h0, h1, h2, zn, List.filter] <;> omega
theorem posN_pre (l : List He) (k a d : Nat) : ∃ r, posN l k (a + d) = posN l k a ++ r := by
  unfold posN
  rw [List.range_add, List.filter_append]
  exact ⟨_, rfl⟩
/-- Which files stand on the level and go down. -/
theorem down_mem {l : List He} {k i : Nat} (hi : i < l.length) : i ∈ downP l k ↔ (lv l i = (k : Int) ∧ (k = 0 ∨ posN l k i = [])) := by
  obtain ⟨d, hd⟩ : ∃ d, l.length = i + 1 + d := ⟨l.length - (i + 1), by omega⟩
  obtain ⟨r, hr⟩ := posN_pre l k (i + 1) d
  rw [← hd] at hr
  have hs := posN_succ l k i
  unfold downP
  by_cases hk : 0 < k
  · rw [if_pos hk]
    constructor
    · intro h
      have hv := pos_lv (List.mem_of_mem_take h)
      refine ⟨hv, .inr ?_⟩
      cases hp : posN l k i with
      | nil => rfl
      | cons x t =>
        exfalso
        have hx : x < i := pos_lt (l := l) (k := k) (n := i) (by rw [hp]; exact List.mem_cons_self)
        unfold pos at h
        rw [hr, hs, hp] at h
        simp at h
        omega
    · rintro ⟨hv, hp⟩
      have hp := hp.resolve_left (by omega)
      rw [if_pos hv, hp] at hs
      unfold pos
      rw [hr, hs]
      simp
  · obtain rfl : k = 0 := by omega
    rw [if_neg hk]
    unfold pos posN
    rw [List.mem_filter, List.mem_range]
    simp [hi]
/-- Marked behind the first loop's round i. -/
def t1 (l : List He) (k i : Nat) : Nat → Bool := fun j => decide (j < i) && (downP l k).contains j
theorem t1_none {l : List He} {k i : Nat} (hi : i < l.length) (h : ¬ (lv l i = (k : Int) ∧ (k = 0 ∨ posN l k i = []))) : t1 l k (i + 1) = t1 l k i := by
  funext j
  unfold t1
  by_cases e : j = i
  · subst e
    have : (downP l k).contains j = false := by
      rw [← Bool.not_eq_true, List.contains_iff_mem]
      exact fun h2 => h ((down_mem hi).1 h2)
    rw [this, Bool.and_false, Bool.and_false]
  · congr 1
    exact decide_eq_decide.2 (by omega)
def setB (f : Nat → Bool) (i : Nat) (b : Bool) : Nat → Bool := fun j => if j = i then b else f j
theorem t1_some {l : List He} {k i : Nat} (hi : i < l.length) (h : lv l i = (k : Int) ∧ (k = 0 ∨ posN l k i = [])) : t1 l k (i + 1) = setB (t1 l k i) i true := by
  funext j
  unfold t1 setB
  by_cases e : j = i
  · subst e
    have : (downP l k).contains j = true := by
      rw [List.contains_iff_mem]
      exact (down_mem hi).2 h
    rw [this, if_pos rfl]
    simp
  · rw [if_neg e]
    congr 1
    exact decide_eq_decide.2 (by omega)
theorem t1_zero (l : List He) (k : Nat) : t1 l k 0 = fun _ => false := by funext j; simp [t1]
theorem posN_nil {l : List He} {k i : Nat} : (posN l k (i + 1) = []) ↔ (posN l k i = [] ∧ lv l i ≠ (k : Int)) := by
  rw [posN_succ]
  by_cases h : lv l i = (k : Int) <;> simp [h]
/-- Behind it all that go down are marked; in order they are these. -/
theorem t1_all (l : List He) (k : Nat) : (List.range l.length).filter (t1 l k l.length) = downP l k := by
  refine List.Perm.eq_of_pairwise (le := fun a b : Nat => a < b) (fun a b _ _ h1 h2 => by omega) (List.Pairwise.filter _ List.pairwise_lt_range) (downP_sorted l k) ?_
  refine (List.perm_ext_iff_of_nodup (List.Pairwise.filter _ List.nodup_range) (nodup_of_lt (downP_sorted l k))).2 (fun i => ?_)
  rw [List.mem_filter, List.mem_range]
  unfold t1
  rw [Bool.and_eq_true, decide_eq_true_eq, List.contains_iff_mem]
  exact ⟨fun h => h.2.2, fun h => ⟨downP_lt h, downP_lt h, h⟩⟩
/-- Marked while the second level's file i is looked at, with j of those that go down. -/
def t3 (l : List He) (k i j : Nat) : Nat → Bool := fun q => if q < i then pk l k q else if q = i then (t1 l k l.length q || (decide (lv l i = (k : Int) + 1) && ((downP l k).take j).any (fun p => tchAt l p i))) else t1 l k l.length q
theorem t3_zero (l : List He) (k : Nat) : t3 l k 0 0 = t1 l k l.length := by
  funext q
  unfold t3
  rw [if_neg (Nat.not_lt_zero q)]
  by_cases e : q = 0
  · rw [if_pos e]; simp
  · rw [if_neg e]
theorem t3_more {l : List He} {k i j p : Nat} (hv : lv l i = (k : Int) + 1) (hp : (downP l k)[j]? = some p) : t3 l k i (j + 1) = setB (t3 l k i j) i (t3 l k i j i || tchAt l p i) := by
  funext q
  unfold setB
  by_cases e : q = i
  · subst e
    rw [if_pos rfl]
    unfold t3
    rw [if_neg (Nat.lt_irrefl q), if_pos rfl, if_neg (Nat.lt_irrefl q), if_pos rfl, List.take_add_one, hp, Option.toList, List.any_append, decide_eq_true hv]
    simp [Bool.or_assoc]
  · rw [if_neg e]
    unfold t3
    by_cases h : q < i
    · rw [if_pos h, if_pos h]
    · rw [if_neg h, if_neg h, if_neg e, if_neg e]
theorem t3_next {l : List He} {k i : Nat} (hi : i < l.length) (j : Nat) (hj : lv l i = (k : Int) + 1 → (downP l k).length ≤ j) : t3 l k (i + 1) 0 = t3 l k i j := by
  funext q
  unfold t3
  by_cases h : q < i
  · rw [if_pos h, if_pos (by omega)]
  · by_cases e : q = i
    · subst e
      rw [if_pos (by omega), if_neg (Nat.lt_irrefl q), if_pos rfl]
      have ht : t1 l k l.length q = (downP l k).contains q := by unfold t1; rw [decide_eq_true hi, Bool.true_and]
      rw [ht]
      by_cases hv : lv l q = (k : Int) + 1
      · rw [pk_below hi (by rw [hv]; simp), decide_eq_true hv, Bool.true_and, List.take_of_length_le (hj hv)]
        have : (downP l k).contains q = false := by
          rw [← Bool.not_eq_true, List.contains_iff_mem]
          intro h2
          have := downP_lv h2
          omega
        rw [this, Bool.false_or]
      · rw [decide_eq_false hv, Bool.false_and, Bool.or_false]
        unfold pk
        have : (touP l (downP l k) (pos l (k + 1))).contains q = false := by
          rw [← Bool.not_eq_true, List.contains_iff_mem]
          intro h2
          have := touP_lv h2
          omega
        rw [this, Bool.or_false]
    · rw [if_neg (by omega), if_neg h, if_neg e]
      by_cases e2 : q = i + 1
      · rw [if_pos e2]; simp
      · rw [if_neg e2]
theorem t3_all {l : List He} {k : Nat} : (List.range l.length).filter (t3 l k l.length 0) = pkL l k := by
  unfold pkL
  refine List.filter_congr (fun q hq => ?_)
  unfold t3
  rw [if_pos (List.mem_range.1 hq)]
/-- A row of marks. -/
def tb (f : Nat → Bool) (n : Nat) : Array Value := ((List.range n).map fun j => Value.bool (f j)).toArray
theorem tb_get {f : Nat → Bool} {n i : Nat} (h : i < n) : (tb f n)[i]? = some (.bool (f i)) := by simp [tb, h]
theorem tb_set {f : Nat → Bool} {n i : Nat} (b : Bool) (h : i < n) : (tb f n).setIfInBounds i (.bool b) = tb (setB f i b) n := by
  apply Array.ext_getElem?
  intro j
  rw [Array.getElem?_setIfInBounds]
  have hs : (tb f n).size = n := by simp [tb]
  by_cases e : i = j
  · subst e
    rw [if_pos rfl, if_pos (by rw [hs]; exact h), tb_get h]
    simp [setB]
  · rw [if_neg e]
    by_cases hj : j < n
    · rw [tb_get hj, tb_get hj]
      unfold setB
      rw [if_neg (fun h => e h.symm)]
    · rw [Array.getElem?_eq_none (by rw [hs]; omega), Array.getElem?_eq_none (by simp [tb]; omega)]

theorem tb_size (f : Nat → Bool) (n : Nat) : (tb f n).size = n := by simp [tb]
set_option maxRecDepth 100000 in
theorem makeT (w : World) (n : Nat) (hn : n ≤ 4000) : (Instr.makeSlice 64 (.int .i64 n) (.int .i64 n)).run Try.prog w = .ok (.slice (some ⟨w.heap.size, 0, none⟩) n n) (w.alloc (.cells (tb (fun _ => false) n) 4)) := by
  have info : (Try.prog.info? 4).map (fun i => (i.zero, i.size, i.bytes)) = some (some (.bool false), 1, 1) := by kernel_rfl
  obtain ⟨i, hi, hz0, hz1, hz2⟩ := info_parts info
  rw [run_make w 64 4 i _ Try.underlying64 hi hz0 .i64 .i64 n n (by omega) (by omega) (by rw [hz2]; omega) (by omega), hz1]
  have e : madeCells (Value.cells (.bool false)) ((n : Int).toNat * 1) = tb (fun _ => false) n := by
    rw [Nat.mul_one, Int.toNat_natCast]
    have h1 : Value.cells (.bool false) = #[Value.bool false] := by kernel_rfl
    rw [h1]
    unfold madeCells tb
    refine Array.ext (by simp) fun j h1 h2 => ?_
    simp [Nat.mod_one]
  rw [e, Int.toNat_natCast]
/-- What the memory holds while a drawn region whose last operation stores is under way. -/
def StB (w : World) (p : Addr) (u : Value) (n : Nat) : (Nat → Bool) → World → Prop := fun L W => (L n = false → Below w.heap.size w W) ∧ (L n = true → (∀ j, j < n → L j = true) ∧ ∃ W0, Below w.heap.size w W0 ∧ W = W0.setCell p u)
theorem stb_off {w W : World} {p : Addr} {u : Value} {n i : Nat} {L : Nat → Bool} (h : StB w p u n L W) (hL : L i = false) (hi : i < n) : Below w.heap.size w W ∧ L n = false := by
  cases e : L n with
  | false => exact ⟨h.1 e, rfl⟩
  | true => have := (h.2 e).1 i hi; rw [hL] at this; cases this
theorem stb_new {w W' : World} {p : Addr} {u : Value} {n i : Nat} {L : Nat → Bool} (hn : L n = false) (hi : i < n) (hb : Below w.heap.size w W') : StB w p u n (upd L i) W' := by
  have e : upd L i n = false := by unfold upd; rw [if_neg (by omega)]; exact hn
  exact ⟨fun _ => hb, fun h => by rw [e] at h; cases h⟩
theorem region_st {P : Program} {id : Nat} {ops : Array Oper} {Q : Exit → Act → World → Prop} {T0 : Array Value} {D : List Deferred} {w : World} (V : Nat → Value) (p : Addr) (u : Value) (n : Nat) (hm : P.follows .mixedOrders = true) (hl : lined ops = true) (hap : apartB ops T0.size = true)
    (step : ∀ (L : Nat → Bool) (a : Act) (W : World) (i : Nat), apartB ops T0.size = true → SI ops T0 D (SvT V) (StB w p u n) L a W → i < ops.size → L i = false → (∀ j, waits ops i j = true → L j = true) → wpOp P ops Q i (fun a' w' => SI ops T0 D (SvT V) (StB w p u n) (upd L i) a' w') a W)
    (fin : ∀ (L : Nat → Bool) (a : Act) (W : World), SI ops T0 D (SvT V) (StB w p u n) L a W → (∀ i, i < ops.size → L i = true) → Q .normal a W) : (Code.region id ops true).wp P Q ⟨T0, D⟩ w :=
  region_si (SvT V) (StB w p u n) hm hl hap ⟨fun _ => (Below.refl _ w).drew, fun e => by cases e⟩ (fun L a W i => step L a W i hap) fin
theorem SI.tv {ops : Array Oper} {T0 : Array Value} {D : List Deferred} {V : Nat → Value} {G : (Nat → Bool) → World → Prop} {L : Nat → Bool} {a : Act} {W : World} (h : SI ops T0 D (SvT V) G L a W) (i d : Nat) (hi : i < ops.size) (hL : L i = true) (hd : dstOf ops i = some d) : a.tmps[d]? = some (V i) := by
  obtain ⟨v, h1, h2⟩ := h.new i d hi hL hd
  rw [h1]
  exact congrArg some h2

end Go.Proofs.Ytcbphalhjajapaa.Clep
