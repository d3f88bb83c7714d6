/- A region that draws its order, by an invariant: each operation is looked at once, whenever it comes up; what each slot holds once its operation has come up. No conditions. -/
import Derived.Test.YtcbphalhjajapaaHBlk
namespace Go.Proofs.Ytcbphalhjajapaa.Clep
open Go.RowKit
set_option linter.unusedVariables false
set_option maxRecDepth 10000

/-- Operation i waits for operation j. -/
def waits (ops : Array Oper) (i j : Nat) : Bool := match ops[i]? with
  | none => false
  | some o => o.after.any (fun e => Region.binds .any e && e.on == j)
/-- Each operation waits for earlier ones alone. -/
def lined (ops : Array Oper) : Bool := (List.range ops.size).all fun i => match ops[i]? with
  | none => true
  | some o => o.after.all (fun e => !Region.binds .any e || decide (e.on < i))
theorem waits_all {ops : Array Oper} {i n : Nat} (h : (List.range n).all (waits ops i) = true) : ∀ j, j < n → waits ops i j = true := fun j hj => List.all_eq_true.1 h j (List.mem_range.2 hj)
def upd (L : Nat → Bool) (i : Nat) : Nat → Bool := fun k => if k = i then true else L k
theorem upd_same (L : Nat → Bool) (i : Nat) : upd L i i = true := by unfold upd; rw [if_pos rfl]
theorem upd_old {L : Nat → Bool} {i j : Nat} (h : upd L i j = true) (hne : j ≠ i) : L j = true := by unfold upd at h; rwa [if_neg hne] at h
theorem upd_more {L : Nat → Bool} {i j : Nat} (h : L j = true) : upd L i j = true := by
  unfold upd
  split
  · rfl
  · exact h
theorem getD_lt (l : Array Bool) (i : Nat) (h : i < l.size) (b c : Bool) : l.getD i b = l.getD i c := by
  simp [Array.getD, h]
def left (l : Array Bool) : Nat := l.toList.countP (fun b => !b)
theorem left_list : ∀ (ls : List Bool) (i : Nat), ls[i]? = some false → (ls.set i true).countP (fun b => !b) + 1 = ls.countP (fun b => !b)
  | [], i, h => by simp at h
  | b :: r, 0, h => by
    simp at h
    subst h
    simp
  | b :: r, i + 1, h => by
    simp at h
    have := left_list r i h
    simp only [List.set_cons_succ, List.countP_cons]
    omega
theorem left_set {l : Array Bool} {i : Nat} (h : i < l.size) (hf : l.getD i true = false) : left (l.setIfInBounds i true) + 1 = left l := by
  unfold left
  rw [Array.toList_setIfInBounds]
  refine left_list _ _ ?_
  rw [Array.getElem?_toList, Array.getElem?_eq_getElem h]
  simpa [Array.getD, h] using hf
theorem ready_iff {ops : Array Oper} {l : Array Bool} {i : Nat} (h : i ∈ Region.ready .any ops l) : i < ops.size ∧ l.getD i true = false ∧ ∀ j, waits ops i j = true → l.getD j false = true := by
  unfold Region.ready at h
  rw [List.mem_filter, List.mem_range] at h
  obtain ⟨hi, h⟩ := h
  rw [Bool.and_eq_true] at h
  obtain ⟨h1, h2⟩ := h
  refine ⟨hi, by simpa using h1, fun j hj => ?_⟩
  unfold waits at hj
  cases ho : ops[i]? with
  | none => rw [ho] at hj; cases hj
  | some o =>
    rw [ho] at hj h2
    simp only [Option.map_some, Option.getD_some, Array.all_eq_true', Array.any_eq_true', Bool.and_eq_true, beq_iff_eq] at hj h2
    obtain ⟨e, he, hb, hon⟩ := hj
    have := h2 e he
    rw [hb, hon] at this
    simpa using this
theorem ready_none {ops : Array Oper} {l : Array Bool} (hl : lined ops = true) (hs : l.size = ops.size) (h : Region.ready .any ops l = []) : ∀ i, i < ops.size → l.getD i true = true := by
  intro i
  induction i using Nat.strongRecOn with
  | ind i ih =>
    intro hi
    cases hc : l.getD i true with
    | true => rfl
    | false =>
      exfalso
      have hmem : i ∈ Region.ready .any ops l := by
        unfold Region.ready
        rw [List.mem_filter, List.mem_range]
        refine ⟨hi, ?_⟩
        rw [hc]
        have ho : ops[i]? = some ops[i] := Array.getElem?_eq_getElem hi
        rw [ho]
        simp only [Bool.not_false, Bool.true_and, Option.map_some, Option.getD_some, Array.all_eq_true', Bool.or_eq_true]
        intro e he
        unfold lined at hl
        have := List.all_eq_true.1 hl i (List.mem_range.2 hi)
        rw [ho] at this
        simp only [Array.all_eq_true', Bool.or_eq_true, decide_eq_true_eq] at this
        rcases this e he with hlt | hlt
        · exact .inl hlt
        right
        rw [getD_lt l e.on (by omega) false true]
        exact ih e.on hlt (by omega)
      rw [h] at hmem
      cases hmem

theorem region_inv {P : Program} {id : Nat} {ops : Array Oper} {Q : Exit → Act → World → Prop} {a : Act} {w : World} (I : (Nat → Bool) → Act → World → Prop) (hm : P.follows .mixedOrders = true) (hl : lined ops = true)
    (h0 : I (fun _ => false) a w.drew)
    (step : ∀ (L : Nat → Bool) (a : Act) (w : World) (i : Nat), I L a w → i < ops.size → L i = false → (∀ j, waits ops i j = true → L j = true) → wpOp P ops Q i (fun a' w' => I (upd L i) a' w') a w)
    (fin : ∀ (L : Nat → Bool) (a : Act) (w : World), I L a w → (∀ i, i < ops.size → L i = true) → Q .normal a w) : (Code.region id ops true).wp P Q a w := by
  have key : ∀ (fuel : Nat) (l : Array Bool) (L : Nat → Bool) (a : Act) (w : World), l.size = ops.size → (∀ i, l.getD i false = L i) → left l ≤ fuel → I L a w → wpAnyH P .any ops Q (fun _ => True) fuel l a w := by
    intro fuel
    induction fuel with
    | zero =>
      intro l L a w hs hL hc hI
      have hall : ∀ i, i < ops.size → l.getD i true = true := fun i hi => by
        cases hf : l.getD i true with
        | true => rfl
        | false => have := left_set (by omega) hf; omega
      refine ⟨?_, fin L a w hI (fun i hi => by rw [← hL, getD_lt l i (by omega) false true]; exact hall i hi)⟩
      cases hr : Region.ready .any ops l with
      | nil => rfl
      | cons i r =>
        have := ready_iff (ops := ops) (l := l) (i := i) (by rw [hr]; simp)
        rw [hall i this.1] at this
        cases this.2.1
    | succ fuel ih =>
      intro l L a w hs hL hc hI
      refine ⟨fun hr => fin L a w hI (fun i hi => by rw [← hL, getD_lt l i (by omega) false true]; exact ready_none hl hs hr i hi), fun i hi => ?_⟩
      obtain ⟨h1, h2, h3⟩ := ready_iff hi
      have h4 := left_set (by omega) h2
      refine wpOp_mono (fun a' w' hI' => ⟨trivial, ih _ (upd L i) a' w' (by simp; omega) (fun k => ?_) (by omega) hI'⟩) (step L a w i hI h1 (by rw [← hL, getD_lt l i (by omega) false true]; exact h2) (fun j hj => by rw [← hL]; exact h3 j hj))
      unfold upd
      by_cases hk : k = i
      · subst hk
        rw [if_pos rfl]
        simp [Array.getD, show k < l.size by omega]
      · rw [if_neg hk, ← hL k]
        have hik : i ≠ k := fun e => hk e.symm
        rw [Array.getD_eq_getD_getElem?, Array.getD_eq_getD_getElem?, Array.getElem?_setIfInBounds, if_neg hik]
  exact wp_region_held hm (key _ _ (fun _ => false) a w.drew (by simp) (fun i => by simp [Array.getD]) (by unfold left; exact Nat.le_trans (List.countP_le_length) (by simp)) h0)

/-- The slot of operation i. -/
def dstOf (ops : Array Oper) (i : Nat) : Option Nat := (ops[i]?).bind (·.dst)
/-- What the frame holds between the operations: each slot whose operation has come up what T says, the others as they were. -/
structure SI (ops : Array Oper) (T0 : Array Value) (D : List Deferred) (Th : (Nat → Bool) → Nat → Value → World → Prop) (G : (Nat → Bool) → World → Prop) (L : Nat → Bool) (a : Act) (w : World) : Prop where
  df : a.defers = D
  sz : a.tmps.size = T0.size
  old : ∀ d, (∀ i, i < ops.size → dstOf ops i ≠ some d) → a.tmps[d]? = T0[d]?
  new : ∀ i d, i < ops.size → L i = true → dstOf ops i = some d → ∃ v, a.tmps[d]? = some v ∧ Th L i v w
  g : G L w
/-- No two operations share a slot; all slots are there. -/
def apartB (ops : Array Oper) (n : Nat) : Bool := (List.range ops.size).all fun i => match dstOf ops i with
  | none => true
  | some d => decide (d < n) && (List.range ops.size).all fun j => decide (j = i) || decide (dstOf ops j ≠ some d)
theorem SI.val {ops : Array Oper} {T0 : Array Value} {D : List Deferred} {Th : (Nat → Bool) → Nat → Value → World → Prop} {G : (Nat → Bool) → World → Prop} {L : Nat → Bool} {a : Act} {w : World} (h : SI ops T0 D Th G L a w) (i d : Nat) (hi : i < ops.size) (hL : L i = true) (hd : dstOf ops i = some d) : ∃ v, a.tmps[d]? = some v ∧ Th L i v w := h.new i d hi hL hd
theorem SI.kept {ops : Array Oper} {T0 : Array Value} {D : List Deferred} {Th : (Nat → Bool) → Nat → Value → World → Prop} {G : (Nat → Bool) → World → Prop} {L : Nat → Bool} {a : Act} {w : World} (h : SI ops T0 D Th G L a w) (d : Nat) (v : Value) (hd : ∀ i, i < ops.size → dstOf ops i ≠ some d) (hv : T0[d]? = some v) : a.tmps[d]? = some v := (h.old d hd).trans hv
/-- One operation comes up, and fills its slot. -/
theorem SI.put {ops : Array Oper} {T0 : Array Value} {D : List Deferred} {Th : (Nat → Bool) → Nat → Value → World → Prop} {G : (Nat → Bool) → World → Prop} {L : Nat → Bool} {a : Act} {w : World} (h : SI ops T0 D Th G L a w) (hap : apartB ops T0.size = true) {i d : Nat} {v : Value} {w' : World} (hi : i < ops.size) (hd : dstOf ops i = some d) (hv : Th (upd L i) i v w')
    (hk : ∀ j u, j ≠ i → L j = true → Th L j u w → Th (upd L i) j u w') (hG : G (upd L i) w') : SI ops T0 D Th G (upd L i) (a.put (some d) v) w' := by
  have hap' := List.all_eq_true.1 hap i (List.mem_range.2 hi)
  rw [hd] at hap'
  simp only [Bool.and_eq_true, decide_eq_true_eq] at hap'
  obtain ⟨hdn, hap2⟩ := hap'
  refine ⟨h.df, by show (a.tmps.setIfInBounds d v).size = _; simp [h.sz], fun e he => ?_, fun j e hj hL hje => ?_, hG⟩
  · have hne : d ≠ e := fun x => he i hi (by rw [hd, x])
    show (a.tmps.setIfInBounds d v)[e]? = _
    rw [Array.getElem?_setIfInBounds, if_neg hne]
    exact h.old e he
  · by_cases hji : j = i
    · subst hji
      rw [hd] at hje
      cases hje
      refine ⟨v, ?_, hv⟩
      show (a.tmps.setIfInBounds d v)[d]? = _
      rw [Array.getElem?_setIfInBounds, if_pos rfl, if_pos (by rw [h.sz]; exact hdn)]
    · have hde : d ≠ e := fun x => by
        have := List.all_eq_true.1 hap2 j (List.mem_range.2 hj)
        simp only [Bool.or_eq_true, decide_eq_true_eq] at this
        rcases this with y | y
        · exact hji y
        · exact y (by rw [hje, x])
      obtain ⟨u, hu, ht⟩ := h.new j e hj (upd_old hL hji) hje
      refine ⟨u, ?_, hk j u hji (upd_old hL hji) ht⟩
      show (a.tmps.setIfInBounds d v)[e]? = _
      rw [Array.getElem?_setIfInBounds, if_neg hde]
      exact hu
/-- One operation comes up that fills no slot. -/
theorem SI.none {ops : Array Oper} {T0 : Array Value} {D : List Deferred} {Th : (Nat → Bool) → Nat → Value → World → Prop} {G : (Nat → Bool) → World → Prop} {L : Nat → Bool} {a : Act} {w : World} (h : SI ops T0 D Th G L a w) {i : Nat} {w' : World} (hi : i < ops.size) (hd : dstOf ops i = Option.none)
    (hk : ∀ j e u, j ≠ i → L j = true → dstOf ops j = some e → a.tmps[e]? = some u → Th L j u w → Th (upd L i) j u w') (hG : G (upd L i) w') (v : Value) : SI ops T0 D Th G (upd L i) (a.put Option.none v) w' := by
  refine ⟨h.df, h.sz, h.old, fun j e hj hL hje => ?_, hG⟩
  have hji : j ≠ i := fun x => by rw [x, hd] at hje; cases hje
  obtain ⟨u, hu, ht⟩ := h.new j e hj (upd_old hL hji) hje
  exact ⟨u, hu, hk j e u hji (upd_old hL hji) hje hu ht⟩
theorem arr_lit (T : Array Value) (l : List Value) (hs : T.size = l.length) (h : ∀ d, d < l.length → T[d]? = l[d]?) : T = l.toArray := by
  apply Array.ext_getElem?
  intro d
  by_cases hd : d < l.length
  · rw [h d hd]; simp
  · rw [Array.getElem?_eq_none (by omega), Array.getElem?_eq_none (by simp; omega)]
theorem act_lit {a : Act} {l : List Value} {D : List Deferred} (hD : a.defers = D) (hs : a.tmps.size = l.length) (h : ∀ d, d < l.length → a.tmps[d]? = l[d]?) : a = ⟨l.toArray, D⟩ := by
  obtain ⟨t, d⟩ := a
  simp only at hD hs h
  rw [hD, arr_lit t l hs h]

theorem region_si {P : Program} {id : Nat} {ops : Array Oper} {Q : Exit → Act → World → Prop} {T0 : Array Value} {D : List Deferred} {w : World} (Th : (Nat → Bool) → Nat → Value → World → Prop) (G : (Nat → Bool) → World → Prop) (hm : P.follows .mixedOrders = true) (hl : lined ops = true) (hap : apartB ops T0.size = true)
    (h0 : G (fun _ => false) w.drew)
    (step : ∀ (L : Nat → Bool) (a : Act) (W : World) (i : Nat), SI ops T0 D Th G L a W → i < ops.size → L i = false → (∀ j, waits ops i j = true → L j = true) → wpOp P ops Q i (fun a' w' => SI ops T0 D Th G (upd L i) a' w') a W)
    (fin : ∀ (L : Nat → Bool) (a : Act) (W : World), SI ops T0 D Th G L a W → (∀ i, i < ops.size → L i = true) → Q .normal a W) : (Code.region id ops true).wp P Q ⟨T0, D⟩ w :=
  region_inv (SI ops T0 D Th G) hm hl ⟨rfl, rfl, fun _ _ => rfl, fun i d _ h _ => (by cases h), h0⟩ step fin
/-- An operation that yields a value and leaves the memory alone. -/
theorem SI.pure {P : Program} {ops : Array Oper} {Q : Exit → Act → World → Prop} {T0 : Array Value} {D : List Deferred} {Th : (Nat → Bool) → Nat → Value → World → Prop} {G : (Nat → Bool) → World → Prop} {L : Nat → Bool} {a : Act} {W : World} (h : SI ops T0 D Th G L a W) (hap : apartB ops T0.size = true) {i d : Nat} {o : Oper} {v : Value} (hi : i < ops.size) (ho : ops[i]? = some o) (hd : o.dst = some d) (hg : o.guard = .none)
    (hv : Th (upd L i) i v W) (hk : ∀ j u, j ≠ i → L j = true → Th L j u W → Th (upd L i) j u W) (hG : G (upd L i) W) (hrun : ∀ K : Act → World → Prop, K (a.put (some d) v) W → Oper.wp P o a W K Q) : wpOp P ops Q i (fun a' w' => SI ops T0 D Th G (upd L i) a' w') a W := by
  have hd' : dstOf ops i = some d := by unfold dstOf; rw [ho]; exact hd
  unfold wpOp
  rw [ho]
  have hw : Region.wanted o (yielded ops a.tmps) = true := by simp [Region.wanted, hg]
  simp only [hw, if_true]
  exact .inl (hrun _ (h.put hap hi hd' hv hk hG))
/-- An operation that yields a value and makes memory, or turns a row. -/
theorem SI.more {P : Program} {ops : Array Oper} {Q : Exit → Act → World → Prop} {T0 : Array Value} {D : List Deferred} {Th : (Nat → Bool) → Nat → Value → World → Prop} {G : (Nat → Bool) → World → Prop} {L : Nat → Bool} {a : Act} {W : World} (h : SI ops T0 D Th G L a W) (hap : apartB ops T0.size = true) {i d : Nat} {o : Oper} (hi : i < ops.size) (ho : ops[i]? = some o) (hd : o.dst = some d) (hg : o.guard = .none)
    (hrun : ∀ K : Act → World → Prop, (∀ v W', Th (upd L i) i v W' → (∀ j u, j ≠ i → L j = true → Th L j u W → Th (upd L i) j u W') → G (upd L i) W' → K (a.put (some d) v) W') → Oper.wp P o a W K Q) : wpOp P ops Q i (fun a' w' => SI ops T0 D Th G (upd L i) a' w') a W := by
  have hd' : dstOf ops i = some d := by unfold dstOf; rw [ho]; exact hd
  unfold wpOp
  rw [ho]
  have hw : Region.wanted o (yielded ops a.tmps) = true := by simp [Region.wanted, hg]
  simp only [hw, if_true]
  exact .inl (hrun _ (fun v W' hv hk hG => h.put hap hi hd' hv hk hG))
theorem SI.store {P : Program} {ops : Array Oper} {Q : Exit → Act → World → Prop} {T0 : Array Value} {D : List Deferred} {Th : (Nat → Bool) → Nat → Value → World → Prop} {G : (Nat → Bool) → World → Prop} {L : Nat → Bool} {a : Act} {W : World} (h : SI ops T0 D Th G L a W) {i : Nat} {o : Oper} (hi : i < ops.size) (ho : ops[i]? = some o) (hd : o.dst = .none) (hg : o.guard = .none)
    (hrun : ∀ K : Act → World → Prop, (∀ W', (∀ j e u, j ≠ i → L j = true → dstOf ops j = some e → a.tmps[e]? = some u → Th L j u W → Th (upd L i) j u W') → G (upd L i) W' → K a W') → Oper.wp P o a W K Q) : wpOp P ops Q i (fun a' w' => SI ops T0 D Th G (upd L i) a' w') a W := by
  have hd' : dstOf ops i = Option.none := by unfold dstOf; rw [ho]; exact hd
  unfold wpOp
  rw [ho]
  have hw : Region.wanted o (yielded ops a.tmps) = true := by simp [Region.wanted, hg]
  simp only [hw, if_true]
  exact .inl (hrun _ (fun W' hk hG => h.none hi hd' hk hG undef))
/-- The slots that the operations fill are among these. -/
def covers (ops : Array Oper) (ds : List Nat) : Bool := (List.range ops.size).all fun i => match dstOf ops i with
  | none => true
  | some d => ds.contains d
theorem frame_sets : ∀ (us : List (Nat × Value)) (T T0 : Array Value), T.size = T0.size → (∀ x ∈ us, T[x.1]? = some x.2) → (∀ d, (us.map Prod.fst).contains d = false → T[d]? = T0[d]?) → T = us.foldl (fun t x => t.setIfInBounds x.1 x.2) T0
  | [], T, T0, hs, hu, ho => by
    apply Array.ext_getElem?
    intro d
    exact ho d rfl
  | x :: r, T, T0, hs, hu, ho => by
    refine frame_sets r T (T0.setIfInBounds x.1 x.2) (by simp [hs]) (fun y hy => hu y (List.mem_cons_of_mem _ hy)) (fun d hd => ?_)
    rw [Array.getElem?_setIfInBounds]
    by_cases e : x.1 = d
    · subst e
      have h1 := hu x (List.mem_cons_self ..)
      have h2 : x.1 < T.size := (Array.getElem?_eq_some_iff.1 h1).1
      rw [if_pos rfl, if_pos (by omega)]
      exact h1
    · rw [if_neg e]
      refine ho d ?_
      rw [List.map_cons, List.contains_cons, hd, Bool.or_false]
      simpa using fun h => e h.symm
theorem si_frame {ops : Array Oper} {T0 : Array Value} {D : List Deferred} {Th : (Nat → Bool) → Nat → Value → World → Prop} {G : (Nat → Bool) → World → Prop} {L : Nat → Bool} {a : Act} {w : World} (h : SI ops T0 D Th G L a w) (us : List (Nat × Value)) (hc : covers ops (us.map Prod.fst) = true) (hu : ∀ x ∈ us, a.tmps[x.1]? = some x.2) : a = ⟨us.foldl (fun t x => t.setIfInBounds x.1 x.2) T0, D⟩ := by
  have := frame_sets us a.tmps T0 h.sz hu (fun d hd => h.old d (fun i hi e => by
    have h1 := List.all_eq_true.1 hc i (List.mem_range.2 hi)
    rw [e] at h1
    simp only at h1
    rw [hd] at h1
    cases h1))
  obtain ⟨t, d⟩ := a
  simp only at this
  have hd := h.df
  simp only at hd
  rw [this, hd]

end Go.Proofs.Ytcbphalhjajapaa.Clep
