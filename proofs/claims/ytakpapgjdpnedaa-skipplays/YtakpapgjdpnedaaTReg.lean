/- A region that draws its order: append(append(append([]T{}, l[:k]...), x), l[k:]...), whichever of its parts comes first. Conditions: what stands in its variables. -/
import Derived.Test.YtakpapgjdpnedaaTPl
import Derived.OrdersHeld
import Derived.Deep.RegionHeld
import Derived.RegionCalls
namespace Go.Proofs.Ytakpapgjdpnedaa.Clep
open Go.RowKit
set_option linter.unusedVariables false

section
variable {P : Program} {ops : Array Oper} {Q : Exit → Act → World → Prop} {S : World → Prop}
theorem wpOp_val {i : Nat} {o : Oper} {K : Act → World → Prop} {a : Act} {w w' : World} {v : Value} (ho : ops[i]? = some o) (hg : o.guard = none) (hr : (execOp a.eval o).run P w = .ok (.value v) w') (h : K (a.put o.dst v) w') : wpOp P ops Q i K a w := by
  unfold wpOp
  rw [ho]
  have hw : Region.wanted o (yielded ops a.tmps) = true := by simp [Region.wanted, hg]
  simp only [hw, if_true]
  left
  unfold Oper.wp
  rw [hr]
  exact h
theorem take_val {i d : Nat} {v : Value} {o : Oper} {fuel : Nat} {listed : Array Bool} {T : Array Value} {D : List Deferred} {w : World} (ho : ops[i]? = some o) (hd : o.dst = some d) (hg : o.guard = none)
    (hs : Region.noSelect ops = true) (hf : Region.free .any ops listed i = true) (hr : (Region.ready .any ops listed).contains i = true)
    (hQ : ∀ c T U E w, Q (.panic c) ⟨T, E⟩ w → Q (.panic c) ⟨U, E⟩ w) (hy : ∀ W, S W → (execOp (Act.eval ⟨T, D⟩) o).run P W = .ok (.value v) W) (hS : S w)
    (h : wpAnyH P .any ops Q S fuel (listed.setIfInBounds i true) ⟨T.setIfInBounds d v, D⟩ w) : wpAnyH P .any ops Q S (fuel + 1) listed ⟨T, D⟩ w := by
  refine wpAnyH_take ho hs hf hr (fun c a w h => by
    obtain ⟨U, E⟩ := a
    rw [hd] at h
    exact hQ c _ _ E w h) (.inl ⟨by simp [Region.wanted, hg], hy⟩) hS ?_
  have e : (Act.mk T D).put o.dst v = ⟨T.setIfInBounds d v, D⟩ := by rw [hd]; rfl
  rw [e]
  exact h
end
/-- What an operation is. -/
def Opi (ops : Array Oper) (i : Nat) (op : Op) (d : Nat) : Prop := ∃ o, ops[i]? = some o ∧ o.op = op ∧ o.dst = some d ∧ o.guard = none

theorem run_mv {ev : Operand → Value} {o : Oper} {x : Operand} (W : World) (h : o.op = .move x) : (execOp ev o).run Try.prog W = .ok (.value (ev x)) W := by
  simp [execOp, h]
theorem run_as {ev : Operand → Value} {o : Oper} {x : Operand} (W : World) (h : o.op = .assign x) : (execOp ev o).run Try.prog W = .ok (.value (ev x)) W := by
  simp [execOp, h]
theorem run_b0 {ev : Operand → Value} {o : Oper} (W : World) (h : o.op = .buildSlice 22 0 #[]) : (execOp ev o).run Try.prog W = .ok (.value (.slice (some ⟨W.heap.size, 0, none⟩) 0 0)) (W.alloc (.cells #[] 29)) := by
  simp [execOp, h, go_sem]
theorem run_b1 {ev : Operand → Value} {o : Oper} {x : Operand} {S K T V X : Int} (W : World) (h : o.op = .buildSlice 22 1 #[(0, x)]) (hx : ev x = .agg #[.int .i64 S, .int .i64 K, .int .u64 T, .int .u64 V, .int .i64 X]) : (execOp ev o).run Try.prog W = .ok (.value (.slice (some ⟨W.heap.size, 0, none⟩) 1 1)) (W.alloc (.cells #[.int .i64 S, .int .i64 K, .int .u64 T, .int .u64 V, .int .i64 X] 29)) := by
  simp [execOp, h, hx, go_sem]
theorem run_ld {ev : Operand → Value} {o : Oper} {x : Operand} {R : Nat} {S K T V X : Int} (W : World) (h : o.op = .load 29 x) (hx : ev x = .pointer (some ⟨R, 0, none⟩)) (hv : Vi W R 0 S K T V X) : (execOp ev o).run Try.prog W = .ok (.value (.agg #[.int .i64 S, .int .i64 K, .int .u64 T, .int .u64 V, .int .i64 X])) W := by
  unfold Vi at hv
  simp only [Nat.zero_add] at hv
  obtain ⟨v0, v1, v2, v3, v4⟩ := hv
  simp [execOp, h, hx, go_sem, v0, v1, v2, v3, v4]
theorem ev_of {T : Array Value} {D : List Deferred} {t : Nat} {v : Value} (h : T[t]? = some v) : Act.eval ⟨T, D⟩ (.tmp t) = v := by
  show T.getD t undef = v
  rw [Array.getD_eq_getD_getElem?, h]; rfl
theorem gs_same {T : Array Value} {d : Nat} {v : Value} (h : d < T.size) : (T.setIfInBounds d v)[d]? = some v := by
  rw [Array.getElem?_setIfInBounds, if_pos rfl, if_pos h]
theorem gs_other {T : Array Value} {d t : Nat} {v : Value} (h : d ≠ t) : (T.setIfInBounds d v)[t]? = T[t]? := Array.getElem?_setIfInBounds_ne h
/-- All but some slots is as it was. -/
structure Keeps (lo V : Nat) (T U : Array Value) : Prop where
  sz : U.size = T.size
  same : ∀ j, (j < lo ∨ lo + 11 < j) → j ≠ V → U[j]? = T[j]?
theorem Keeps.set {lo V d : Nat} {T U : Array Value} {v : Value} (h : Keeps lo V T U) (hd : lo ≤ d ∧ d ≤ lo + 11) : Keeps lo V T (U.setIfInBounds d v) :=
  ⟨by rw [Array.size_setIfInBounds]; exact h.sz, fun j hj hV => (gs_other (by omega)).trans (h.same j hj hV)⟩
structure Ext (lo V : Nat) (T U : Array Value) (v : Value) : Prop where
  sz : U.size = T.size
  at_ : U[V]? = some v
  same : ∀ j, (j < lo ∨ lo + 11 < j) → j ≠ V → U[j]? = T[j]?
theorem Keeps.last {lo V : Nat} {T U : Array Value} (h : Keeps lo V T U) (v : Value) (hV : V < U.size) : Ext lo V T (U.setIfInBounds V v) v :=
  ⟨by rw [Array.size_setIfInBounds]; exact h.sz, gs_same hV, fun j hj hv => (gs_other (Ne.symm hv)).trans (h.same j hj hv)⟩
def setR (T : Array Value) (lo : Nat) (f : Nat → Value) : Nat → Array Value
  | 0 => T
  | n + 1 => (setR T lo f n).setIfInBounds (lo + n) (f n)
theorem setR_size (T : Array Value) (lo : Nat) (f : Nat → Value) : ∀ n, (setR T lo f n).size = T.size
  | 0 => rfl
  | n + 1 => by
    show ((setR T lo f n).setIfInBounds (lo + n) (f n)).size = _
    rw [Array.size_setIfInBounds, setR_size T lo f n]
theorem setR_get (T : Array Value) (lo : Nat) (f : Nat → Value) (j : Nat) (hj : j < T.size) : ∀ n, (setR T lo f n)[j]? = if lo ≤ j ∧ j < lo + n then some (f (j - lo)) else T[j]?
  | 0 => by
    rw [if_neg (by omega)]; rfl
  | n + 1 => by
    show ((setR T lo f n).setIfInBounds (lo + n) (f n))[j]? = _
    by_cases h : lo + n = j
    · subst h
      rw [gs_same (by rw [setR_size]; exact hj), if_pos (by omega), show lo + n - lo = n from by omega]
    · rw [gs_other h, setR_get T lo f j hj n]
      by_cases h2 : lo ≤ j ∧ j < lo + n
      · rw [if_pos h2, if_pos (by omega)]
      · rw [if_neg h2, if_neg (by omega)]
theorem ext_eq {lo V : Nat} {T T' : Array Value} {v : Value} (h : Ext lo V T T' v) (hV : V < lo) : T' = setR (T.setIfInBounds V v) lo (fun i => T'.getD (lo + i) undef) 12 := by
  apply Array.ext_getElem?
  intro j
  by_cases hj : j < T.size
  · rw [setR_get _ _ _ _ (by rw [Array.size_setIfInBounds]; exact hj)]
    have hj' : j < T'.size := by rw [h.sz]; exact hj
    by_cases h2 : lo ≤ j ∧ j < lo + 12
    · rw [if_pos h2, show lo + (j - lo) = j from by omega, Array.getD_eq_getD_getElem?, Array.getElem?_eq_getElem hj']
      rfl
    · rw [if_neg h2]
      by_cases hv : V = j
      · subst hv
        rw [gs_same hj, h.at_]
      · rw [gs_other hv]
        exact h.same j (by omega) (Ne.symm hv)
  · rw [Array.getElem?_eq_none (by rw [h.sz]; omega), Array.getElem?_eq_none (by rw [setR_size, Array.size_setIfInBounds]; omega)]
theorem ext23 {T T' : Array Value} {v : Value} (h : Ext 113 8 T T' v) : ∃ f0 f1 f2 f3 f4 f5 f6 f7 f8 f9 f10 f11 : Value, T' = (((((((((((((T.setIfInBounds 8 v).setIfInBounds 113 f0).setIfInBounds 114 f1).setIfInBounds 115 f2).setIfInBounds 116 f3).setIfInBounds 117 f4).setIfInBounds 118 f5).setIfInBounds 119 f6).setIfInBounds 120 f7).setIfInBounds 121 f8).setIfInBounds 122 f9).setIfInBounds 123 f10).setIfInBounds 124 f11) := ⟨_, _, _, _, _, _, _, _, _, _, _, _, ext_eq h (by decide)⟩
theorem ext24 {T T' : Array Value} {v : Value} (h : Ext 125 9 T T' v) : ∃ f0 f1 f2 f3 f4 f5 f6 f7 f8 f9 f10 f11 : Value, T' = (((((((((((((T.setIfInBounds 9 v).setIfInBounds 125 f0).setIfInBounds 126 f1).setIfInBounds 127 f2).setIfInBounds 128 f3).setIfInBounds 129 f4).setIfInBounds 130 f5).setIfInBounds 131 f6).setIfInBounds 132 f7).setIfInBounds 133 f8).setIfInBounds 134 f9).setIfInBounds 135 f10).setIfInBounds 136 f11) := ⟨_, _, _, _, _, _, _, _, _, _, _, _, ext_eq h (by decide)⟩
def pickV (V : Nat) (T U : Array Value) (j : Nat) : Value := bif (j == V || (Nat.ble 35 j && Nat.ble j 136)) then U.getD j undef else T.getD j undef
theorem lit_of {lo V : Nat} {T U : Array Value} {v : Value} (h : Ext lo V T U v) (hlo : 35 ≤ lo ∧ lo + 11 ≤ 136) (hsz : T.size = 270) : U = ((List.range 270).map (pickV V T U)).toArray := by
  apply Array.ext_getElem?
  intro j
  have hU : U.size = 270 := h.sz.trans hsz
  by_cases hj : j < 270
  · have e : ((List.range 270).map (pickV V T U)).toArray[j]? = some (pickV V T U j) := by
      rw [List.getElem?_toArray, List.getElem?_map, List.getElem?_range hj]; rfl
    rw [e, Array.getElem?_eq_getElem (by omega)]
    have e1 : U.getD j undef = U[j]'(by omega) := by rw [Array.getD_eq_getD_getElem?, Array.getElem?_eq_getElem (by omega)]; rfl
    unfold pickV
    cases hb : (j == V || (Nat.ble 35 j && Nat.ble j 136)) with
    | true => rw [cond_true, e1]
    | false =>
      rw [cond_false, ← e1]
      simp only [Bool.or_eq_false_iff, beq_eq_false_iff_ne, Bool.and_eq_false_iff] at hb
      have hn : j < 35 ∨ 136 < j := by
        rcases hb.2 with q | q
        · left
          have : ¬ 35 ≤ j := fun hle => by rw [Nat.ble_eq_true_of_le hle] at q; cases q
          omega
        · right
          have : ¬ j ≤ 136 := fun hle => by rw [Nat.ble_eq_true_of_le hle] at q; cases q
          omega
      have hs := h.same j (by omega) hb.1
      rw [Array.getD_eq_getD_getElem?, Array.getD_eq_getD_getElem?, hs]
  · rw [Array.getElem?_eq_none (by omega), Array.getElem?_eq_none (by simp; omega)]
theorem ext_at {lo V : Nat} {T U : Array Value} {v : Value} (h : Ext lo V T U v) : U.getD V undef = v := by
  rw [Array.getD_eq_getD_getElem?, h.at_]; rfl
theorem as_then {P : Program} {s : Code} {Q : Exit → Act → World → Prop} {a : Act} {w : World} (h : ∀ K' : Act → World → Prop, (∀ a w, Q .normal a w → K' a w) → s.wp P (Exit.then K' Q) a w) : s.wp P Q a w := by
  refine wp_mono (h (fun a w => Q .normal a w) (fun _ _ q => q)) ?_
  intro e a' w' hq
  cases e with
  | normal => exact hq
  | exit id => exact hq
  | goto l => exact hq
  | ret => exact hq
  | panic ch => exact hq
  | outgrown => exact hq
theorem sw_lst {L : Array Bool} {i j : Nat} {a b : Bool} (h : j ≠ i) : (L.setIfInBounds i a).setIfInBounds j b = (L.setIfInBounds j b).setIfInBounds i a := by
  apply Array.ext_getElem?
  intro t
  by_cases hj : j = t
  · subst hj
    have hij : i ≠ j := Ne.symm h
    simp [Array.getElem?_setIfInBounds, hij]
  · by_cases hi : i = t
    · subst hi
      simp [Array.getElem?_setIfInBounds, h]
    · simp [hi, hj]
theorem wpOp_go {P : Program} {ops : Array Oper} {Q : Exit → Act → World → Prop} {i : Nat} {o : Oper} {K : Act → World → Prop} {a : Act} {w : World} (ho : ops[i]? = some o)
    (h : if Region.wanted o (yielded ops a.tmps) = true then Oper.wp P o a w K Q else K (a.put o.dst undef) w) : wpOp P ops Q i K a w := by
  unfold wpOp
  rw [ho]
  simp only
  split at h
  · rename_i hw; rw [if_pos hw]; exact .inl h
  · rename_i hw; rw [if_neg hw]; exact h
def cut5 (a : Option Addr) (cap l : Nat) : Option Addr := if cap = l then a else a.map (·.add (l * 5))
def cut1 (a : Option Addr) (cap l : Nat) : Option Addr := if cap = l then a else a.map (·.add l)
theorem under_items : Try.prog.underlying 22 = some (.slice (Try.prog.elem 22)) := by kernel_rfl
theorem under_ints : Try.prog.underlying 23 = some (.slice (Try.prog.elem 23)) := by kernel_rfl
theorem sizeof_items (w : World) : (sizeOf (Try.prog.elem 22)).run Try.prog w = .ok 5 w := by
  go_simp
theorem sizeof_ints (w : World) : (sizeOf (Try.prog.elem 23)).run Try.prog w = .ok 1 w := by
  go_simp
theorem run_s1 {ev : Operand → Value} {o : Oper} {x y : Operand} {ao : Option Addr} {n cap k : Nat} (W : World) (h : o.op = .slice 22 x none (some y) none) (hx : ev x = .slice ao n cap) (hy : ev y = .int .i64 k) (hk : k ≤ cap) (hc : cap ≤ 9223372036854775807) : (execOp ev o).run Try.prog W = .ok (.value (.slice (cut5 ao cap 0) k cap)) W := by
  have e : (Instr.sliceAt 22 (.slice ao n cap) none (some (.int .i64 k)) none).run Try.prog W = .ok (.slice (cut5 ao cap 0) k cap) W := by
    rw [run_sliceAt_slice _ _ _ _ _ _ under_items, run_slice_h _ _ _ _ _ under_items .i64 k (by omega) (by omega), sizeof_items]
    simp [Result.andThen, sliced, cut5]
  simp [execOp, h, hx, hy, e, Result.andThen]
theorem run_s3 {ev : Operand → Value} {o : Oper} {x y : Operand} {ao : Option Addr} {n cap k : Nat} (W : World) (h : o.op = .slice 22 x (some y) none none) (hx : ev x = .slice ao n cap) (hy : ev y = .int .i64 k) (hk : k ≤ n) (hnc : n ≤ cap) (hc : cap ≤ 9223372036854775807) : (execOp ev o).run Try.prog W = .ok (.value (.slice (cut5 ao cap k) (n - k) (cap - k))) W := by
  have e : (Instr.sliceAt 22 (.slice ao n cap) (some (.int .i64 k)) none none).run Try.prog W = .ok (.slice (cut5 ao cap k) (n - k) (cap - k)) W := by
    rw [run_sliceAt_slice _ _ _ _ _ _ under_items, run_slice_l _ _ _ _ _ under_items .i64 k (by omega) (by omega), sizeof_items]
    simp [Result.andThen, sliced, cut5]
  simp [execOp, h, hx, hy, e, Result.andThen]
theorem run_z1 {ev : Operand → Value} {o : Oper} {x y : Operand} {ao : Option Addr} {n cap k : Nat} (W : World) (h : o.op = .slice 23 x none (some y) none) (hx : ev x = .slice ao n cap) (hy : ev y = .int .i64 k) (hk : k ≤ cap) (hc : cap ≤ 9223372036854775807) : (execOp ev o).run Try.prog W = .ok (.value (.slice (cut1 ao cap 0) k cap)) W := by
  have e : (Instr.sliceAt 23 (.slice ao n cap) none (some (.int .i64 k)) none).run Try.prog W = .ok (.slice (cut1 ao cap 0) k cap) W := by
    rw [run_sliceAt_slice _ _ _ _ _ _ under_ints, run_slice_h _ _ _ _ _ under_ints .i64 k (by omega) (by omega), sizeof_ints]
    simp [Result.andThen, sliced, cut1]
  simp [execOp, h, hx, hy, e, Result.andThen]
theorem run_z3 {ev : Operand → Value} {o : Oper} {x y : Operand} {ao : Option Addr} {n cap k : Nat} (W : World) (h : o.op = .slice 23 x (some y) none none) (hx : ev x = .slice ao n cap) (hy : ev y = .int .i64 k) (hk : k ≤ n) (hnc : n ≤ cap) (hc : cap ≤ 9223372036854775807) : (execOp ev o).run Try.prog W = .ok (.value (.slice (cut1 ao cap k) (n - k) (cap - k))) W := by
  have e : (Instr.sliceAt 23 (.slice ao n cap) (some (.int .i64 k)) none none).run Try.prog W = .ok (.slice (cut1 ao cap k) (n - k) (cap - k)) W := by
    rw [run_sliceAt_slice _ _ _ _ _ _ under_ints, run_slice_l _ _ _ _ _ under_ints .i64 k (by omega) (by omega), sizeof_ints]
    simp [Result.andThen, sliced, cut1]
  simp [execOp, h, hx, hy, e, Result.andThen]
theorem run_z0 {ev : Operand → Value} {o : Oper} (W : World) (h : o.op = .buildSlice 23 0 #[]) : (execOp ev o).run Try.prog W = .ok (.value (.slice (some ⟨W.heap.size, 0, none⟩) 0 0)) (W.alloc (.cells #[] 3)) := by
  simp [execOp, h, go_sem]
theorem run_z01 {ev : Operand → Value} {o : Oper} {x : Operand} {z : Int} (W : World) (h : o.op = .buildSlice 23 1 #[(0, x)]) (hx : ev x = .int .i64 z) : (execOp ev o).run Try.prog W = .ok (.value (.slice (some ⟨W.heap.size, 0, none⟩) 1 1)) (W.alloc (.cells #[.int .i64 z] 3)) := by
  simp [execOp, h, hx, go_sem]
theorem is_s1 {w : World} {ao : Option Addr} {n cap k : Nat} {l : List It} (h : Is w ao n cap l) (hk : k ≤ n) : Is w (cut5 ao cap 0) k cap (l.take k) := by
  have e : cut5 ao cap 0 = ao := by
    unfold cut5
    cases ao with
    | none => simp
    | some a => simp [Addr.add]
  rw [e]
  refine ⟨by rw [List.length_take, h.1]; omega, ⟨by have := h.2.1.1; omega, fun e => by have := h.2.1.2 e; omega⟩, fun x hx => h.2.2.1 x (List.mem_of_mem_take hx), fun h0 => ?_⟩
  obtain ⟨b, off, e, hc⟩ := h.2.2.2 (by omega)
  refine ⟨b, off, e, fun i x hi => hc i x ?_⟩
  have hik : i < k := by
    have := (List.getElem?_eq_some_iff.1 hi).1
    rw [List.length_take] at this
    omega
  rwa [List.getElem?_take_of_lt hik] at hi
theorem is_s3 {w : World} {ao : Option Addr} {n cap k : Nat} {l : List It} (h : Is w ao n cap l) (hk : k ≤ n) : Is w (cut5 ao cap k) (n - k) (cap - k) (l.drop k) := by
  have hnc := h.2.1.1
  refine ⟨by rw [List.length_drop, h.1], ⟨by omega, fun e => ?_⟩, fun x hx => h.2.2.1 x (List.mem_of_mem_drop hx), fun h0 => ?_⟩
  · have : ao = none := by
      unfold cut5 at e
      split at e
      · exact e
      · cases ao with
        | none => rfl
        | some a => cases e
    have := h.2.1.2 this
    omega
  · obtain ⟨b, off, e, hc⟩ := h.2.2.2 (by omega)
    subst e
    refine ⟨b, off + k * 5, by unfold cut5; rw [if_neg (by omega)]; show some ((⟨b, off, none⟩ : Addr).add (k * 5)) = _; rw [add_plain], fun i x hi => ?_⟩
    rw [List.getElem?_drop] at hi
    have := hc (k + i) x hi
    rwa [show off + (k + i) * 5 = off + k * 5 + i * 5 from by omega] at this
/-- What a slice of ints leads to, with its room. -/
def ZrF (w : World) (ao : Option Addr) (n cap : Nat) (l : List Int) : Prop := l.length = n ∧ n ≤ cap ∧ ((ao = none ∧ n = 0 ∧ cap = 0) ∨ ∃ g, ao = some ⟨g, 0, none⟩ ∧ ∀ i, i < n → w.cell? ⟨g, i, none⟩ = some (.int .i64 (l.getD i 0)))
theorem ZrF.below {w w' : World} {ao : Option Addr} {n cap : Nat} {l : List Int} (h : ZrF w ao n cap l) (hb : Below w.heap.size w w') : ZrF w' ao n cap l := by
  refine ⟨h.1, h.2.1, ?_⟩
  rcases h.2.2 with e | ⟨g, e, hc⟩
  · exact .inl e
  · exact .inr ⟨g, e, fun i hi => (hb.cell (p := ⟨g, i, none⟩) (World.block_lt_of_cell? w _ (hc i hi))).trans (hc i hi)⟩
theorem zr_s1 {w : World} {ao : Option Addr} {n cap k : Nat} {l : List Int} (h : ZrF w ao n cap l) (hk : k ≤ n) : Zr w (cut1 ao cap 0) k cap (l.take k) := by
  have e : cut1 ao cap 0 = ao := by
    unfold cut1
    cases ao with
    | none => simp
    | some a => simp [Addr.add]
  rw [e]
  rcases h.2.2 with ⟨rfl, rfl, rfl⟩ | ⟨g, rfl, hc⟩
  · obtain rfl : k = 0 := by omega
    exact zr_zero w none 0 (fun _ => rfl) (fun _ e => by cases e)
  · exact zr_cut h.1 hc k cap hk
theorem zr_s3 {w : World} {ao : Option Addr} {n cap k : Nat} {l : List Int} (h : ZrF w ao n cap l) (hk : k ≤ n) : Zr w (cut1 ao cap k) (n - k) (cap - k) (l.drop k) := by
  have hnc := h.2.1
  have hl := h.1
  rcases h.2.2 with ⟨rfl, rfl, rfl⟩ | ⟨g, rfl, hc⟩
  · obtain rfl : k = 0 := by omega
    have : l = [] := List.eq_nil_of_length_eq_zero hl
    subst this
    exact zr_zero w _ 0 (fun _ => rfl) (fun _ e => by cases e)
  · by_cases hck : cap = k
    · have e1 : n - k = 0 := by omega
      have e2 : l.drop k = [] := List.drop_eq_nil_of_le (by omega)
      rw [e1, e2]
      unfold cut1
      rw [if_pos hck]
      exact zr_zero w _ _ (fun e => by cases e) (fun ad e => by cases e; rfl)
    · unfold cut1
      rw [if_neg hck]
      show Zr w (some ((⟨g, 0, none⟩ : Addr).add k)) _ _ _
      rw [add_plain, Nat.zero_add]
      exact zr_past hl hc k (cap - k) hk

/- The regions. -/
set_option maxHeartbeats 1000000 in
theorem reg23 {ops : Array Oper} {Q : Exit → Act → World → Prop} {T0 : Array Value} {D : List Deferred} {w : World} {id : Nat} (hsz : T0.size = 270)
    (q0 : Opi ops 0 (.buildSlice 22 0 #[]) 113)
    (q1 : Opi ops 1 (.move (.tmp 8)) 114)
    (q2 : Opi ops 2 (.move (.tmp 15)) 115)
    (q3 : Opi ops 3 (.slice 22 (.tmp 114) none (some (.tmp 115)) none) 116)
    (q4 : Opi ops 4 (.call { callee := .builtin .append, args := #[.tmp 113, .tmp 116], argTypes := #[22, 22] }) 117)
    (q5 : Opi ops 5 (.load 29 (.tmp 11)) 118)
    (q6 : Opi ops 6 (.buildSlice 22 1 #[(0, .tmp 118)]) 119)
    (q7 : Opi ops 7 (.call { callee := .builtin .append, args := #[.tmp 117, .tmp 119], argTypes := #[22, 22] }) 120)
    (q8 : Opi ops 8 (.move (.tmp 8)) 121)
    (q9 : Opi ops 9 (.move (.tmp 15)) 122)
    (q10 : Opi ops 10 (.slice 22 (.tmp 121) (some (.tmp 122)) none none) 123)
    (q11 : Opi ops 11 (.call { callee := .builtin .append, args := #[.tmp 120, .tmp 123], argTypes := #[22, 22] }) 124)
    (q12 : Opi ops 12 (.assign (.tmp 124)) 8)
    (hns : Region.noSelect ops = true) (hm : Try.prog.follows .mixedOrders = true) (hop : ops.size = 13)
    (f1 : Region.free .any ops ((Array.replicate 13 false)) 1 = true) (r1 : (Region.ready .any ops ((Array.replicate 13 false))).contains 1 = true)
    (f2 : Region.free .any ops (((Array.replicate 13 false).setIfInBounds 1 true)) 2 = true) (r2 : (Region.ready .any ops (((Array.replicate 13 false).setIfInBounds 1 true))).contains 2 = true)
    (f3 : Region.free .any ops ((((Array.replicate 13 false).setIfInBounds 1 true).setIfInBounds 2 true)) 3 = true) (r3 : (Region.ready .any ops ((((Array.replicate 13 false).setIfInBounds 1 true).setIfInBounds 2 true))).contains 3 = true)
    (f8 : Region.free .any ops (((((Array.replicate 13 false).setIfInBounds 1 true).setIfInBounds 2 true).setIfInBounds 3 true)) 8 = true) (r8 : (Region.ready .any ops (((((Array.replicate 13 false).setIfInBounds 1 true).setIfInBounds 2 true).setIfInBounds 3 true))).contains 8 = true)
    (f9 : Region.free .any ops ((((((Array.replicate 13 false).setIfInBounds 1 true).setIfInBounds 2 true).setIfInBounds 3 true).setIfInBounds 8 true)) 9 = true) (r9 : (Region.ready .any ops ((((((Array.replicate 13 false).setIfInBounds 1 true).setIfInBounds 2 true).setIfInBounds 3 true).setIfInBounds 8 true))).contains 9 = true)
    (f10 : Region.free .any ops (((((((Array.replicate 13 false).setIfInBounds 1 true).setIfInBounds 2 true).setIfInBounds 3 true).setIfInBounds 8 true).setIfInBounds 9 true)) 10 = true) (r10 : (Region.ready .any ops (((((((Array.replicate 13 false).setIfInBounds 1 true).setIfInBounds 2 true).setIfInBounds 3 true).setIfInBounds 8 true).setIfInBounds 9 true))).contains 10 = true)
    (f5 : Region.free .any ops ((((((((Array.replicate 13 false).setIfInBounds 1 true).setIfInBounds 2 true).setIfInBounds 3 true).setIfInBounds 8 true).setIfInBounds 9 true).setIfInBounds 10 true)) 5 = true) (r5 : (Region.ready .any ops ((((((((Array.replicate 13 false).setIfInBounds 1 true).setIfInBounds 2 true).setIfInBounds 3 true).setIfInBounds 8 true).setIfInBounds 9 true).setIfInBounds 10 true))).contains 5 = true)
    (yn : Region.ready .any ops (((((((((Array.replicate 13 false).setIfInBounds 1 true).setIfInBounds 2 true).setIfInBounds 3 true).setIfInBounds 8 true).setIfInBounds 9 true).setIfInBounds 10 true).setIfInBounds 5 true)) = [0, 6])
    (y0 : Region.ready .any ops ((((((((((Array.replicate 13 false).setIfInBounds 1 true).setIfInBounds 2 true).setIfInBounds 3 true).setIfInBounds 8 true).setIfInBounds 9 true).setIfInBounds 10 true).setIfInBounds 5 true).setIfInBounds 0 true)) = [4, 6])
    (y0_4 : Region.ready .any ops (((((((((((Array.replicate 13 false).setIfInBounds 1 true).setIfInBounds 2 true).setIfInBounds 3 true).setIfInBounds 8 true).setIfInBounds 9 true).setIfInBounds 10 true).setIfInBounds 5 true).setIfInBounds 0 true).setIfInBounds 4 true)) = [6])
    (y0_6 : Region.ready .any ops (((((((((((Array.replicate 13 false).setIfInBounds 1 true).setIfInBounds 2 true).setIfInBounds 3 true).setIfInBounds 8 true).setIfInBounds 9 true).setIfInBounds 10 true).setIfInBounds 5 true).setIfInBounds 0 true).setIfInBounds 6 true)) = [4])
    (y6 : Region.ready .any ops ((((((((((Array.replicate 13 false).setIfInBounds 1 true).setIfInBounds 2 true).setIfInBounds 3 true).setIfInBounds 8 true).setIfInBounds 9 true).setIfInBounds 10 true).setIfInBounds 5 true).setIfInBounds 6 true)) = [0])
    (y6_0 : Region.ready .any ops (((((((((((Array.replicate 13 false).setIfInBounds 1 true).setIfInBounds 2 true).setIfInBounds 3 true).setIfInBounds 8 true).setIfInBounds 9 true).setIfInBounds 10 true).setIfInBounds 5 true).setIfInBounds 6 true).setIfInBounds 0 true)) = [4])
    (y0_4_6 : Region.ready .any ops ((((((((((((Array.replicate 13 false).setIfInBounds 1 true).setIfInBounds 2 true).setIfInBounds 3 true).setIfInBounds 8 true).setIfInBounds 9 true).setIfInBounds 10 true).setIfInBounds 5 true).setIfInBounds 0 true).setIfInBounds 4 true).setIfInBounds 6 true)) = [7])
    (y0_4_6_7 : Region.ready .any ops (((((((((((((Array.replicate 13 false).setIfInBounds 1 true).setIfInBounds 2 true).setIfInBounds 3 true).setIfInBounds 8 true).setIfInBounds 9 true).setIfInBounds 10 true).setIfInBounds 5 true).setIfInBounds 0 true).setIfInBounds 4 true).setIfInBounds 6 true).setIfInBounds 7 true)) = [11])
    (y0_4_6_7_11 : Region.ready .any ops ((((((((((((((Array.replicate 13 false).setIfInBounds 1 true).setIfInBounds 2 true).setIfInBounds 3 true).setIfInBounds 8 true).setIfInBounds 9 true).setIfInBounds 10 true).setIfInBounds 5 true).setIfInBounds 0 true).setIfInBounds 4 true).setIfInBounds 6 true).setIfInBounds 7 true).setIfInBounds 11 true)) = [12])
    (y0_4_6_7_11_12 : Region.ready .any ops (((((((((((((((Array.replicate 13 false).setIfInBounds 1 true).setIfInBounds 2 true).setIfInBounds 3 true).setIfInBounds 8 true).setIfInBounds 9 true).setIfInBounds 10 true).setIfInBounds 5 true).setIfInBounds 0 true).setIfInBounds 4 true).setIfInBounds 6 true).setIfInBounds 7 true).setIfInBounds 11 true).setIfInBounds 12 true)) = [])
    {ao : Option Addr} {n cap k R : Nat} {l : List It} {S K T V X : Int} (t8 : T0[8]? = some (.slice ao n cap)) (t15 : T0[15]? = some (.int .i64 k)) (t11 : T0[11]? = some (.pointer (some ⟨R, 0, none⟩)))
    (hI : Is w ao n cap l) (hv : Vi w R 0 S K T V X) (hwf : It.wf ⟨S, K, T, V, X⟩)
    (hk : k ≤ n) (hcap : cap ≤ 9223372036854775807) (hnc : n ≤ cap) (hn : n ≤ 1000) (hQ : ∀ c T U E w, Q (.panic c) ⟨T, E⟩ w → Q (.panic c) ⟨U, E⟩ w)
    (hfin : ∀ T' v w', Ext 113 8 T0 T' v → OwnI w' w.heap.size v (l.take k ++ [(⟨S, K, T, V, X⟩ : It)] ++ l.drop k) → Below w.heap.size w w' → Q .normal ⟨T', D⟩ w') :
    (Code.region id ops true).wp Try.prog Q ⟨T0, D⟩ w := by
  obtain ⟨o0, h0, p0, d0, g0⟩ := q0
  obtain ⟨o1, h1, p1, d1, g1⟩ := q1
  obtain ⟨o2, h2, p2, d2, g2⟩ := q2
  obtain ⟨o3, h3, p3, d3, g3⟩ := q3
  obtain ⟨o4, h4, p4, d4, g4⟩ := q4
  obtain ⟨o5, h5, p5, d5, g5⟩ := q5
  obtain ⟨o6, h6, p6, d6, g6⟩ := q6
  obtain ⟨o7, h7, p7, d7, g7⟩ := q7
  obtain ⟨o8, h8, p8, d8, g8⟩ := q8
  obtain ⟨o9, h9, p9, d9, g9⟩ := q9
  obtain ⟨o10, h10, p10, d10, g10⟩ := q10
  obtain ⟨o11, h11, p11, d11, g11⟩ := q11
  obtain ⟨o12, h12, p12, d12, g12⟩ := q12
  have hI1 : ∀ W, Below w.heap.size w W → Is W (cut5 ao cap 0) k cap (l.take k) := fun W hW => is_s1 (hI.below hW (Nat.le_refl _)) hk
  have hI3 : ∀ W, Below w.heap.size w W → Is W (cut5 ao cap k) (n - k) (cap - k) (l.drop k) := fun W hW => is_s3 (hI.below hW (Nat.le_refl _)) hk
  have hln : l.length = n := hI.1
  have hl1 : ([] : List It).length + k ≤ 1099511627776 := by simp; omega
  have hl2 : (l.take k).length + 1 ≤ 1099511627776 := by rw [List.length_take]; omega
  have hl3 : (l.take k ++ [(⟨S, K, T, V, X⟩ : It)]).length + (n - k) ≤ 1099511627776 := by rw [List.length_append, List.length_take]; simp; omega
  refine wp_region_held_drew (S := fun W => Below w.heap.size w W) hm (Below.refl _ _).drew (fun hS => ?_)
  rw [hop]
  have x0 : Keeps 113 8 T0 T0 := ⟨rfl, fun j _ _ => rfl⟩
  refine take_val (v := .slice ao n cap) h1 d1 g1 hns f1 r1 hQ (fun W _ => (run_mv W p1).trans (by rw [ev_of t8])) hS ?_
  obtain ⟨T1, eT1⟩ : ∃ U, U = T0.setIfInBounds 114 (.slice ao n cap) := ⟨_, rfl⟩
  rw [← eT1]
  have sT1 : T1.size = 270 := by rw [eT1, Array.size_setIfInBounds]; exact hsz
  have c8_1 : T1[8]? = some (.slice ao n cap) := by rw [eT1]; exact (gs_other (by decide)).trans t8
  have c15_1 : T1[15]? = some (.int .i64 k) := by rw [eT1]; exact (gs_other (by decide)).trans t15
  have c11_1 : T1[11]? = some (.pointer (some ⟨R, 0, none⟩)) := by rw [eT1]; exact (gs_other (by decide)).trans t11
  have c114_1 : T1[114]? = some (.slice ao n cap) := by rw [eT1]; exact gs_same (by rw [hsz]; decide)
  have x1 : Keeps 113 8 T0 T1 := by rw [eT1]; exact x0.set (by decide)
  refine take_val (v := .int .i64 k) h2 d2 g2 hns f2 r2 hQ (fun W _ => (run_mv W p2).trans (by rw [ev_of c15_1])) hS ?_
  obtain ⟨T2, eT2⟩ : ∃ U, U = T1.setIfInBounds 115 (.int .i64 k) := ⟨_, rfl⟩
  rw [← eT2]
  have sT2 : T2.size = 270 := by rw [eT2, Array.size_setIfInBounds]; exact sT1
  have c8_2 : T2[8]? = some (.slice ao n cap) := by rw [eT2]; exact (gs_other (by decide)).trans c8_1
  have c15_2 : T2[15]? = some (.int .i64 k) := by rw [eT2]; exact (gs_other (by decide)).trans c15_1
  have c11_2 : T2[11]? = some (.pointer (some ⟨R, 0, none⟩)) := by rw [eT2]; exact (gs_other (by decide)).trans c11_1
  have c114_2 : T2[114]? = some (.slice ao n cap) := by rw [eT2]; exact (gs_other (by decide)).trans c114_1
  have c115_2 : T2[115]? = some (.int .i64 k) := by rw [eT2]; exact gs_same (by rw [sT1]; decide)
  have x2 : Keeps 113 8 T0 T2 := by rw [eT2]; exact x1.set (by decide)
  refine take_val (v := .slice (cut5 ao cap 0) k cap) h3 d3 g3 hns f3 r3 hQ (fun W _ => run_s1 W p3 (ev_of c114_2) (ev_of c115_2) (by omega) hcap) hS ?_
  obtain ⟨T3, eT3⟩ : ∃ U, U = T2.setIfInBounds 116 (.slice (cut5 ao cap 0) k cap) := ⟨_, rfl⟩
  rw [← eT3]
  have sT3 : T3.size = 270 := by rw [eT3, Array.size_setIfInBounds]; exact sT2
  have c8_3 : T3[8]? = some (.slice ao n cap) := by rw [eT3]; exact (gs_other (by decide)).trans c8_2
  have c15_3 : T3[15]? = some (.int .i64 k) := by rw [eT3]; exact (gs_other (by decide)).trans c15_2
  have c11_3 : T3[11]? = some (.pointer (some ⟨R, 0, none⟩)) := by rw [eT3]; exact (gs_other (by decide)).trans c11_2
  have c114_3 : T3[114]? = some (.slice ao n cap) := by rw [eT3]; exact (gs_other (by decide)).trans c114_2
  have c115_3 : T3[115]? = some (.int .i64 k) := by rw [eT3]; exact (gs_other (by decide)).trans c115_2
  have c116_3 : T3[116]? = some (.slice (cut5 ao cap 0) k cap) := by rw [eT3]; exact gs_same (by rw [sT2]; decide)
  have x3 : Keeps 113 8 T0 T3 := by rw [eT3]; exact x2.set (by decide)
  refine take_val (v := .slice ao n cap) h8 d8 g8 hns f8 r8 hQ (fun W _ => (run_mv W p8).trans (by rw [ev_of c8_3])) hS ?_
  obtain ⟨T4, eT4⟩ : ∃ U, U = T3.setIfInBounds 121 (.slice ao n cap) := ⟨_, rfl⟩
  rw [← eT4]
  have sT4 : T4.size = 270 := by rw [eT4, Array.size_setIfInBounds]; exact sT3
  have c8_4 : T4[8]? = some (.slice ao n cap) := by rw [eT4]; exact (gs_other (by decide)).trans c8_3
  have c15_4 : T4[15]? = some (.int .i64 k) := by rw [eT4]; exact (gs_other (by decide)).trans c15_3
  have c11_4 : T4[11]? = some (.pointer (some ⟨R, 0, none⟩)) := by rw [eT4]; exact (gs_other (by decide)).trans c11_3
  have c114_4 : T4[114]? = some (.slice ao n cap) := by rw [eT4]; exact (gs_other (by decide)).trans c114_3
  have c115_4 : T4[115]? = some (.int .i64 k) := by rw [eT4]; exact (gs_other (by decide)).trans c115_3
  have c116_4 : T4[116]? = some (.slice (cut5 ao cap 0) k cap) := by rw [eT4]; exact (gs_other (by decide)).trans c116_3
  have c121_4 : T4[121]? = some (.slice ao n cap) := by rw [eT4]; exact gs_same (by rw [sT3]; decide)
  have x4 : Keeps 113 8 T0 T4 := by rw [eT4]; exact x3.set (by decide)
  refine take_val (v := .int .i64 k) h9 d9 g9 hns f9 r9 hQ (fun W _ => (run_mv W p9).trans (by rw [ev_of c15_4])) hS ?_
  obtain ⟨T5, eT5⟩ : ∃ U, U = T4.setIfInBounds 122 (.int .i64 k) := ⟨_, rfl⟩
  rw [← eT5]
  have sT5 : T5.size = 270 := by rw [eT5, Array.size_setIfInBounds]; exact sT4
  have c8_5 : T5[8]? = some (.slice ao n cap) := by rw [eT5]; exact (gs_other (by decide)).trans c8_4
  have c15_5 : T5[15]? = some (.int .i64 k) := by rw [eT5]; exact (gs_other (by decide)).trans c15_4
  have c11_5 : T5[11]? = some (.pointer (some ⟨R, 0, none⟩)) := by rw [eT5]; exact (gs_other (by decide)).trans c11_4
  have c114_5 : T5[114]? = some (.slice ao n cap) := by rw [eT5]; exact (gs_other (by decide)).trans c114_4
  have c115_5 : T5[115]? = some (.int .i64 k) := by rw [eT5]; exact (gs_other (by decide)).trans c115_4
  have c116_5 : T5[116]? = some (.slice (cut5 ao cap 0) k cap) := by rw [eT5]; exact (gs_other (by decide)).trans c116_4
  have c121_5 : T5[121]? = some (.slice ao n cap) := by rw [eT5]; exact (gs_other (by decide)).trans c121_4
  have c122_5 : T5[122]? = some (.int .i64 k) := by rw [eT5]; exact gs_same (by rw [sT4]; decide)
  have x5 : Keeps 113 8 T0 T5 := by rw [eT5]; exact x4.set (by decide)
  refine take_val (v := .slice (cut5 ao cap k) (n - k) (cap - k)) h10 d10 g10 hns f10 r10 hQ (fun W _ => run_s3 W p10 (ev_of c121_5) (ev_of c122_5) hk hnc hcap) hS ?_
  obtain ⟨T6, eT6⟩ : ∃ U, U = T5.setIfInBounds 123 (.slice (cut5 ao cap k) (n - k) (cap - k)) := ⟨_, rfl⟩
  rw [← eT6]
  have sT6 : T6.size = 270 := by rw [eT6, Array.size_setIfInBounds]; exact sT5
  have c8_6 : T6[8]? = some (.slice ao n cap) := by rw [eT6]; exact (gs_other (by decide)).trans c8_5
  have c15_6 : T6[15]? = some (.int .i64 k) := by rw [eT6]; exact (gs_other (by decide)).trans c15_5
  have c11_6 : T6[11]? = some (.pointer (some ⟨R, 0, none⟩)) := by rw [eT6]; exact (gs_other (by decide)).trans c11_5
  have c114_6 : T6[114]? = some (.slice ao n cap) := by rw [eT6]; exact (gs_other (by decide)).trans c114_5
  have c115_6 : T6[115]? = some (.int .i64 k) := by rw [eT6]; exact (gs_other (by decide)).trans c115_5
  have c116_6 : T6[116]? = some (.slice (cut5 ao cap 0) k cap) := by rw [eT6]; exact (gs_other (by decide)).trans c116_5
  have c121_6 : T6[121]? = some (.slice ao n cap) := by rw [eT6]; exact (gs_other (by decide)).trans c121_5
  have c122_6 : T6[122]? = some (.int .i64 k) := by rw [eT6]; exact (gs_other (by decide)).trans c122_5
  have c123_6 : T6[123]? = some (.slice (cut5 ao cap k) (n - k) (cap - k)) := by rw [eT6]; exact gs_same (by rw [sT5]; decide)
  have x6 : Keeps 113 8 T0 T6 := by rw [eT6]; exact x5.set (by decide)
  refine take_val (v := .agg #[.int .i64 S, .int .i64 K, .int .u64 T, .int .u64 V, .int .i64 X]) h5 d5 g5 hns f5 r5 hQ (fun W hW => run_ld W p5 (ev_of c11_6) (hv.keep hW)) hS ?_
  obtain ⟨T7, eT7⟩ : ∃ U, U = T6.setIfInBounds 118 (.agg #[.int .i64 S, .int .i64 K, .int .u64 T, .int .u64 V, .int .i64 X]) := ⟨_, rfl⟩
  rw [← eT7]
  have sT7 : T7.size = 270 := by rw [eT7, Array.size_setIfInBounds]; exact sT6
  have c8_7 : T7[8]? = some (.slice ao n cap) := by rw [eT7]; exact (gs_other (by decide)).trans c8_6
  have c15_7 : T7[15]? = some (.int .i64 k) := by rw [eT7]; exact (gs_other (by decide)).trans c15_6
  have c11_7 : T7[11]? = some (.pointer (some ⟨R, 0, none⟩)) := by rw [eT7]; exact (gs_other (by decide)).trans c11_6
  have c114_7 : T7[114]? = some (.slice ao n cap) := by rw [eT7]; exact (gs_other (by decide)).trans c114_6
  have c115_7 : T7[115]? = some (.int .i64 k) := by rw [eT7]; exact (gs_other (by decide)).trans c115_6
  have c116_7 : T7[116]? = some (.slice (cut5 ao cap 0) k cap) := by rw [eT7]; exact (gs_other (by decide)).trans c116_6
  have c121_7 : T7[121]? = some (.slice ao n cap) := by rw [eT7]; exact (gs_other (by decide)).trans c121_6
  have c122_7 : T7[122]? = some (.int .i64 k) := by rw [eT7]; exact (gs_other (by decide)).trans c122_6
  have c123_7 : T7[123]? = some (.slice (cut5 ao cap k) (n - k) (cap - k)) := by rw [eT7]; exact (gs_other (by decide)).trans c123_6
  have c118_7 : T7[118]? = some (.agg #[.int .i64 S, .int .i64 K, .int .u64 T, .int .u64 V, .int .i64 X]) := by rw [eT7]; exact gs_same (by rw [sT6]; decide)
  have x7 : Keeps 113 8 T0 T7 := by rw [eT7]; exact x6.set (by decide)
  have hend : ∀ (U : Array Value) (v4 : Value) (p : Nat) (W : World), U.size = 270 → Keeps 113 8 T0 U → U[117]? = some v4 → U[119]? = some (.slice (some ⟨p, 0, none⟩) 1 1) → U[123]? = some (.slice (cut5 ao cap k) (n - k) (cap - k)) →
      OwnI W w.heap.size v4 (l.take k) → Is W (some ⟨p, 0, none⟩) 1 1 [(⟨S, K, T, V, X⟩ : It)] → Below w.heap.size w W → wpAnyH Try.prog .any ops Q (fun W => Below w.heap.size w W) 3 ((((((((((((Array.replicate 13 false).setIfInBounds 1 true).setIfInBounds 2 true).setIfInBounds 3 true).setIfInBounds 8 true).setIfInBounds 9 true).setIfInBounds 10 true).setIfInBounds 5 true).setIfInBounds 0 true).setIfInBounds 4 true).setIfInBounds 6 true)) ⟨U, D⟩ W := by
    intro U v4 p W uz ux u4 u6 u10 ow ib hW
    refine wpAnyH_all y0_4_6 (by decide) fun i hi => ?_
    obtain rfl := List.mem_singleton.1 hi
    refine wpOp_go h7 (step_append_items g7 _ _ p7 w.heap.size v4 (l.take k) (ev_of u4) ow _ 1 1 [(⟨S, K, T, V, X⟩ : It)] (ev_of u6) ib hl2 hW.size ?_)
    intro v5 w5 ow5 gr5 k5
    have b5 : Below w.heap.size w w5 := hW.grown gr5 hW.size k5
    refine ⟨b5, ?_⟩
    rw [d7]
    show wpAnyH _ _ _ _ _ _ _ ⟨U.setIfInBounds 120 v5, D⟩ w5
    refine wpAnyH_all y0_4_6_7 (by decide) fun i hi => ?_
    obtain rfl := List.mem_singleton.1 hi
    refine wpOp_go h11 (step_append_items g11 _ _ p11 w.heap.size v5 (l.take k ++ [(⟨S, K, T, V, X⟩ : It)]) (ev_of (gs_same (by rw [uz]; decide))) ow5 _ (n - k) (cap - k) (l.drop k) (ev_of ((gs_other (by decide)).trans u10)) (hI3 w5 b5) hl3 b5.size ?_)
    intro v6 w6 ow6 gr6 k6
    have b6 : Below w.heap.size w w6 := b5.grown gr6 b5.size k6
    refine ⟨b6, ?_⟩
    rw [d11]
    show wpAnyH _ _ _ _ _ _ _ ⟨(U.setIfInBounds 120 v5).setIfInBounds 124 v6, D⟩ w6
    refine wpAnyH_all y0_4_6_7_11 (by decide) fun i hi => ?_
    obtain rfl := List.mem_singleton.1 hi
    refine wpOp_val h12 g12 (run_as w6 p12) ⟨b6, ?_⟩
    rw [d12, ev_of (gs_same (by rw [Array.size_setIfInBounds, uz]; decide))]
    show wpAnyH _ _ _ _ _ _ _ ⟨((U.setIfInBounds 120 v5).setIfInBounds 124 v6).setIfInBounds 8 v6, D⟩ w6
    refine wpAnyH_done y0_4_6_7_11_12 (hfin _ v6 w6 ?_ ow6 b6) _
    exact ((ux.set (by decide)).set (by decide)).last v6 (by rw [Array.size_setIfInBounds, Array.size_setIfInBounds, uz]; decide)
  refine wpAnyH_all yn (by decide) fun i hi => ?_
  rcases List.mem_cons.1 hi with rfl | hi
  · refine wpOp_val h0 g0 (run_b0 _ p0) ⟨Below.alloc hS hS.size _, ?_⟩
    rw [d0]
    obtain ⟨W1, eW1⟩ : ∃ W1, W1 = w.drew.alloc (.cells #[] 29) := ⟨_, rfl⟩
    have b1 : Below w.heap.size w W1 := by rw [eW1]; exact Below.alloc hS hS.size _
    have oe : OwnI W1 w.heap.size (.slice (some ⟨w.heap.size, 0, none⟩) 0 0) [] := by rw [eW1]; exact ownI_empty (hpS _ _ _ rfl) (Nat.le_refl _)
    show wpAnyH _ _ _ _ _ _ _ ⟨T7.setIfInBounds 113 (.slice (some ⟨w.heap.size, 0, none⟩) 0 0), D⟩ (w.drew.alloc (.cells #[] 29))
    rw [← eW1]
    obtain ⟨T8, eT8⟩ : ∃ U, U = T7.setIfInBounds 113 (.slice (some ⟨w.heap.size, 0, none⟩) 0 0) := ⟨_, rfl⟩
    rw [← eT8]
    have sT8 : T8.size = 270 := by rw [eT8, Array.size_setIfInBounds]; exact sT7
    have c8_8 : T8[8]? = some (.slice ao n cap) := by rw [eT8]; exact (gs_other (by decide)).trans c8_7
    have c15_8 : T8[15]? = some (.int .i64 k) := by rw [eT8]; exact (gs_other (by decide)).trans c15_7
    have c11_8 : T8[11]? = some (.pointer (some ⟨R, 0, none⟩)) := by rw [eT8]; exact (gs_other (by decide)).trans c11_7
    have c114_8 : T8[114]? = some (.slice ao n cap) := by rw [eT8]; exact (gs_other (by decide)).trans c114_7
    have c115_8 : T8[115]? = some (.int .i64 k) := by rw [eT8]; exact (gs_other (by decide)).trans c115_7
    have c116_8 : T8[116]? = some (.slice (cut5 ao cap 0) k cap) := by rw [eT8]; exact (gs_other (by decide)).trans c116_7
    have c121_8 : T8[121]? = some (.slice ao n cap) := by rw [eT8]; exact (gs_other (by decide)).trans c121_7
    have c122_8 : T8[122]? = some (.int .i64 k) := by rw [eT8]; exact (gs_other (by decide)).trans c122_7
    have c123_8 : T8[123]? = some (.slice (cut5 ao cap k) (n - k) (cap - k)) := by rw [eT8]; exact (gs_other (by decide)).trans c123_7
    have c118_8 : T8[118]? = some (.agg #[.int .i64 S, .int .i64 K, .int .u64 T, .int .u64 V, .int .i64 X]) := by rw [eT8]; exact (gs_other (by decide)).trans c118_7
    have c113_8 : T8[113]? = some (.slice (some ⟨w.heap.size, 0, none⟩) 0 0) := by rw [eT8]; exact gs_same (by rw [sT7]; decide)
    have x8 : Keeps 113 8 T0 T8 := by rw [eT8]; exact x7.set (by decide)
    refine wpAnyH_all y0 (by decide) fun i hi => ?_
    rcases List.mem_cons.1 hi with rfl | hi
    · refine wpOp_go h4 (step_append_items g4 _ _ p4 w.heap.size _ [] (ev_of c113_8) oe _ k cap (l.take k) (ev_of c116_8) (hI1 W1 b1) hl1 b1.size ?_)
      intro v4 w4 ow4 gr4 k4
      have b4 : Below w.heap.size w w4 := b1.grown gr4 b1.size k4
      refine ⟨b4, ?_⟩
      rw [d4]
      show wpAnyH _ _ _ _ _ _ _ ⟨T8.setIfInBounds 117 v4, D⟩ w4
      obtain ⟨T9, eT9⟩ : ∃ U, U = T8.setIfInBounds 117 (v4) := ⟨_, rfl⟩
      rw [← eT9]
      have sT9 : T9.size = 270 := by rw [eT9, Array.size_setIfInBounds]; exact sT8
      have c8_9 : T9[8]? = some (.slice ao n cap) := by rw [eT9]; exact (gs_other (by decide)).trans c8_8
      have c15_9 : T9[15]? = some (.int .i64 k) := by rw [eT9]; exact (gs_other (by decide)).trans c15_8
      have c11_9 : T9[11]? = some (.pointer (some ⟨R, 0, none⟩)) := by rw [eT9]; exact (gs_other (by decide)).trans c11_8
      have c114_9 : T9[114]? = some (.slice ao n cap) := by rw [eT9]; exact (gs_other (by decide)).trans c114_8
      have c115_9 : T9[115]? = some (.int .i64 k) := by rw [eT9]; exact (gs_other (by decide)).trans c115_8
      have c116_9 : T9[116]? = some (.slice (cut5 ao cap 0) k cap) := by rw [eT9]; exact (gs_other (by decide)).trans c116_8
      have c121_9 : T9[121]? = some (.slice ao n cap) := by rw [eT9]; exact (gs_other (by decide)).trans c121_8
      have c122_9 : T9[122]? = some (.int .i64 k) := by rw [eT9]; exact (gs_other (by decide)).trans c122_8
      have c123_9 : T9[123]? = some (.slice (cut5 ao cap k) (n - k) (cap - k)) := by rw [eT9]; exact (gs_other (by decide)).trans c123_8
      have c118_9 : T9[118]? = some (.agg #[.int .i64 S, .int .i64 K, .int .u64 T, .int .u64 V, .int .i64 X]) := by rw [eT9]; exact (gs_other (by decide)).trans c118_8
      have c113_9 : T9[113]? = some (.slice (some ⟨w.heap.size, 0, none⟩) 0 0) := by rw [eT9]; exact (gs_other (by decide)).trans c113_8
      have c117_9 : T9[117]? = some (v4) := by rw [eT9]; exact gs_same (by rw [sT8]; decide)
      have x9 : Keeps 113 8 T0 T9 := by rw [eT9]; exact x8.set (by decide)
      refine wpAnyH_all y0_4 (by decide) fun i hi => ?_
      obtain rfl := List.mem_singleton.1 hi
      refine wpOp_val h6 g6 (run_b1 w4 p6 (ev_of c118_9)) ⟨Below.alloc b4 b4.size _, ?_⟩
      rw [d6]
      show wpAnyH _ _ _ _ _ _ _ ⟨T9.setIfInBounds 119 (.slice (some ⟨w4.heap.size, 0, none⟩) 1 1), D⟩ _
      obtain ⟨T10, eT10⟩ : ∃ U, U = T9.setIfInBounds 119 (.slice (some ⟨w4.heap.size, 0, none⟩) 1 1) := ⟨_, rfl⟩
      rw [← eT10]
      have sT10 : T10.size = 270 := by rw [eT10, Array.size_setIfInBounds]; exact sT9
      have c8_10 : T10[8]? = some (.slice ao n cap) := by rw [eT10]; exact (gs_other (by decide)).trans c8_9
      have c15_10 : T10[15]? = some (.int .i64 k) := by rw [eT10]; exact (gs_other (by decide)).trans c15_9
      have c11_10 : T10[11]? = some (.pointer (some ⟨R, 0, none⟩)) := by rw [eT10]; exact (gs_other (by decide)).trans c11_9
      have c114_10 : T10[114]? = some (.slice ao n cap) := by rw [eT10]; exact (gs_other (by decide)).trans c114_9
      have c115_10 : T10[115]? = some (.int .i64 k) := by rw [eT10]; exact (gs_other (by decide)).trans c115_9
      have c116_10 : T10[116]? = some (.slice (cut5 ao cap 0) k cap) := by rw [eT10]; exact (gs_other (by decide)).trans c116_9
      have c121_10 : T10[121]? = some (.slice ao n cap) := by rw [eT10]; exact (gs_other (by decide)).trans c121_9
      have c122_10 : T10[122]? = some (.int .i64 k) := by rw [eT10]; exact (gs_other (by decide)).trans c122_9
      have c123_10 : T10[123]? = some (.slice (cut5 ao cap k) (n - k) (cap - k)) := by rw [eT10]; exact (gs_other (by decide)).trans c123_9
      have c118_10 : T10[118]? = some (.agg #[.int .i64 S, .int .i64 K, .int .u64 T, .int .u64 V, .int .i64 X]) := by rw [eT10]; exact (gs_other (by decide)).trans c118_9
      have c113_10 : T10[113]? = some (.slice (some ⟨w.heap.size, 0, none⟩) 0 0) := by rw [eT10]; exact (gs_other (by decide)).trans c113_9
      have c117_10 : T10[117]? = some (v4) := by rw [eT10]; exact (gs_other (by decide)).trans c117_9
      have c119_10 : T10[119]? = some (.slice (some ⟨w4.heap.size, 0, none⟩) 1 1) := by rw [eT10]; exact gs_same (by rw [sT9]; decide)
      have x10 : Keeps 113 8 T0 T10 := by rw [eT10]; exact x9.set (by decide)
      exact hend T10 v4 w4.heap.size _ sT10 x10 c117_10 c119_10 c123_10 (ownI_keep ow4 ((Below.refl _ _).alloc (Nat.le_refl _) _)) (is_block hwf (hpS _ _ _ rfl)) (Below.alloc b4 b4.size _)
    · obtain rfl := List.mem_singleton.1 hi
      refine wpOp_val h6 g6 (run_b1 W1 p6 (ev_of c118_8)) ⟨Below.alloc b1 b1.size _, ?_⟩
      rw [d6]
      obtain ⟨W2, eW2⟩ : ∃ W2, W2 = W1.alloc (Obj.cells #[.int .i64 S, .int .i64 K, .int .u64 T, .int .u64 V, .int .i64 X] 29) := ⟨_, rfl⟩
      have b2 : Below w.heap.size w W2 := by rw [eW2]; exact Below.alloc b1 b1.size _
      have oe2 : OwnI W2 w.heap.size (.slice (some ⟨w.heap.size, 0, none⟩) 0 0) [] := by rw [eW2]; exact ownI_keep oe ((Below.refl _ _).alloc (Nat.le_refl _) _)
      have hx2 : W2.heap[W1.heap.size]? = some (Obj.cells #[.int .i64 S, .int .i64 K, .int .u64 T, .int .u64 V, .int .i64 X] 29) := by rw [eW2]; exact hpS _ _ _ rfl
      have hne : W1.heap.size ≠ w.heap.size := by rw [eW1, Deep.nblk_alloc]; show w.heap.size + 1 ≠ _; omega
      show wpAnyH _ _ _ _ _ _ _ ⟨T8.setIfInBounds 119 (.slice (some ⟨W1.heap.size, 0, none⟩) 1 1), D⟩ (W1.alloc (Obj.cells #[.int .i64 S, .int .i64 K, .int .u64 T, .int .u64 V, .int .i64 X] 29))
      rw [← eW2]
      obtain ⟨T11, eT11⟩ : ∃ U, U = T8.setIfInBounds 119 (.slice (some ⟨W1.heap.size, 0, none⟩) 1 1) := ⟨_, rfl⟩
      rw [← eT11]
      have sT11 : T11.size = 270 := by rw [eT11, Array.size_setIfInBounds]; exact sT8
      have c8_11 : T11[8]? = some (.slice ao n cap) := by rw [eT11]; exact (gs_other (by decide)).trans c8_8
      have c15_11 : T11[15]? = some (.int .i64 k) := by rw [eT11]; exact (gs_other (by decide)).trans c15_8
      have c11_11 : T11[11]? = some (.pointer (some ⟨R, 0, none⟩)) := by rw [eT11]; exact (gs_other (by decide)).trans c11_8
      have c114_11 : T11[114]? = some (.slice ao n cap) := by rw [eT11]; exact (gs_other (by decide)).trans c114_8
      have c115_11 : T11[115]? = some (.int .i64 k) := by rw [eT11]; exact (gs_other (by decide)).trans c115_8
      have c116_11 : T11[116]? = some (.slice (cut5 ao cap 0) k cap) := by rw [eT11]; exact (gs_other (by decide)).trans c116_8
      have c121_11 : T11[121]? = some (.slice ao n cap) := by rw [eT11]; exact (gs_other (by decide)).trans c121_8
      have c122_11 : T11[122]? = some (.int .i64 k) := by rw [eT11]; exact (gs_other (by decide)).trans c122_8
      have c123_11 : T11[123]? = some (.slice (cut5 ao cap k) (n - k) (cap - k)) := by rw [eT11]; exact (gs_other (by decide)).trans c123_8
      have c118_11 : T11[118]? = some (.agg #[.int .i64 S, .int .i64 K, .int .u64 T, .int .u64 V, .int .i64 X]) := by rw [eT11]; exact (gs_other (by decide)).trans c118_8
      have c113_11 : T11[113]? = some (.slice (some ⟨w.heap.size, 0, none⟩) 0 0) := by rw [eT11]; exact (gs_other (by decide)).trans c113_8
      have c119_11 : T11[119]? = some (.slice (some ⟨W1.heap.size, 0, none⟩) 1 1) := by rw [eT11]; exact gs_same (by rw [sT8]; decide)
      have x11 : Keeps 113 8 T0 T11 := by rw [eT11]; exact x8.set (by decide)
      refine wpAnyH_all y0_6 (by decide) fun i hi => ?_
      obtain rfl := List.mem_singleton.1 hi
      refine wpOp_go h4 (step_append_items g4 _ _ p4 w.heap.size _ [] (ev_of c113_11) oe2 _ k cap (l.take k) (ev_of c116_11) (hI1 W2 b2) hl1 b2.size ?_)
      intro v4 w4 ow4 gr4 k4
      have b4 : Below w.heap.size w w4 := b2.grown gr4 b2.size k4
      refine ⟨b4, ?_⟩
      rw [d4]
      show wpAnyH _ _ _ _ _ _ ((((((((((((Array.replicate 13 false).setIfInBounds 1 true).setIfInBounds 2 true).setIfInBounds 3 true).setIfInBounds 8 true).setIfInBounds 9 true).setIfInBounds 10 true).setIfInBounds 5 true).setIfInBounds 0 true)).setIfInBounds 6 true).setIfInBounds 4 true) ⟨T11.setIfInBounds 117 v4, D⟩ w4
      rw [sw_lst (by decide : (4 : Nat) ≠ 6)]
      obtain ⟨T12, eT12⟩ : ∃ U, U = T11.setIfInBounds 117 (v4) := ⟨_, rfl⟩
      rw [← eT12]
      have sT12 : T12.size = 270 := by rw [eT12, Array.size_setIfInBounds]; exact sT11
      have c8_12 : T12[8]? = some (.slice ao n cap) := by rw [eT12]; exact (gs_other (by decide)).trans c8_11
      have c15_12 : T12[15]? = some (.int .i64 k) := by rw [eT12]; exact (gs_other (by decide)).trans c15_11
      have c11_12 : T12[11]? = some (.pointer (some ⟨R, 0, none⟩)) := by rw [eT12]; exact (gs_other (by decide)).trans c11_11
      have c114_12 : T12[114]? = some (.slice ao n cap) := by rw [eT12]; exact (gs_other (by decide)).trans c114_11
      have c115_12 : T12[115]? = some (.int .i64 k) := by rw [eT12]; exact (gs_other (by decide)).trans c115_11
      have c116_12 : T12[116]? = some (.slice (cut5 ao cap 0) k cap) := by rw [eT12]; exact (gs_other (by decide)).trans c116_11
      have c121_12 : T12[121]? = some (.slice ao n cap) := by rw [eT12]; exact (gs_other (by decide)).trans c121_11
      have c122_12 : T12[122]? = some (.int .i64 k) := by rw [eT12]; exact (gs_other (by decide)).trans c122_11
      have c123_12 : T12[123]? = some (.slice (cut5 ao cap k) (n - k) (cap - k)) := by rw [eT12]; exact (gs_other (by decide)).trans c123_11
      have c118_12 : T12[118]? = some (.agg #[.int .i64 S, .int .i64 K, .int .u64 T, .int .u64 V, .int .i64 X]) := by rw [eT12]; exact (gs_other (by decide)).trans c118_11
      have c113_12 : T12[113]? = some (.slice (some ⟨w.heap.size, 0, none⟩) 0 0) := by rw [eT12]; exact (gs_other (by decide)).trans c113_11
      have c119_12 : T12[119]? = some (.slice (some ⟨W1.heap.size, 0, none⟩) 1 1) := by rw [eT12]; exact (gs_other (by decide)).trans c119_11
      have c117_12 : T12[117]? = some (v4) := by rw [eT12]; exact gs_same (by rw [sT11]; decide)
      have x12 : Keeps 113 8 T0 T12 := by rw [eT12]; exact x11.set (by decide)
      exact hend T12 v4 W1.heap.size w4 sT12 x12 c117_12 c119_12 c123_12 ow4 (is_block hwf (hpG gr4 hx2 (fun e => hne (by injection e)))) b4
  · obtain rfl := List.mem_singleton.1 hi
    refine wpOp_val h6 g6 (run_b1 w.drew p6 (ev_of c118_7)) ⟨Below.alloc hS hS.size _, ?_⟩
    rw [d6]
    obtain ⟨W1, eW1⟩ : ∃ W1, W1 = w.drew.alloc (Obj.cells #[.int .i64 S, .int .i64 K, .int .u64 T, .int .u64 V, .int .i64 X] 29) := ⟨_, rfl⟩
    have b1 : Below w.heap.size w W1 := by rw [eW1]; exact Below.alloc hS hS.size _
    have hx1 : W1.heap[w.heap.size]? = some (Obj.cells #[.int .i64 S, .int .i64 K, .int .u64 T, .int .u64 V, .int .i64 X] 29) := by rw [eW1]; exact hpS _ _ _ rfl
    show wpAnyH _ _ _ _ _ _ _ ⟨T7.setIfInBounds 119 (.slice (some ⟨w.heap.size, 0, none⟩) 1 1), D⟩ (w.drew.alloc (Obj.cells #[.int .i64 S, .int .i64 K, .int .u64 T, .int .u64 V, .int .i64 X] 29))
    rw [← eW1]
    obtain ⟨T13, eT13⟩ : ∃ U, U = T7.setIfInBounds 119 (.slice (some ⟨w.heap.size, 0, none⟩) 1 1) := ⟨_, rfl⟩
    rw [← eT13]
    have sT13 : T13.size = 270 := by rw [eT13, Array.size_setIfInBounds]; exact sT7
    have c8_13 : T13[8]? = some (.slice ao n cap) := by rw [eT13]; exact (gs_other (by decide)).trans c8_7
    have c15_13 : T13[15]? = some (.int .i64 k) := by rw [eT13]; exact (gs_other (by decide)).trans c15_7
    have c11_13 : T13[11]? = some (.pointer (some ⟨R, 0, none⟩)) := by rw [eT13]; exact (gs_other (by decide)).trans c11_7
    have c114_13 : T13[114]? = some (.slice ao n cap) := by rw [eT13]; exact (gs_other (by decide)).trans c114_7
    have c115_13 : T13[115]? = some (.int .i64 k) := by rw [eT13]; exact (gs_other (by decide)).trans c115_7
    have c116_13 : T13[116]? = some (.slice (cut5 ao cap 0) k cap) := by rw [eT13]; exact (gs_other (by decide)).trans c116_7
    have c121_13 : T13[121]? = some (.slice ao n cap) := by rw [eT13]; exact (gs_other (by decide)).trans c121_7
    have c122_13 : T13[122]? = some (.int .i64 k) := by rw [eT13]; exact (gs_other (by decide)).trans c122_7
    have c123_13 : T13[123]? = some (.slice (cut5 ao cap k) (n - k) (cap - k)) := by rw [eT13]; exact (gs_other (by decide)).trans c123_7
    have c118_13 : T13[118]? = some (.agg #[.int .i64 S, .int .i64 K, .int .u64 T, .int .u64 V, .int .i64 X]) := by rw [eT13]; exact (gs_other (by decide)).trans c118_7
    have c119_13 : T13[119]? = some (.slice (some ⟨w.heap.size, 0, none⟩) 1 1) := by rw [eT13]; exact gs_same (by rw [sT7]; decide)
    have x13 : Keeps 113 8 T0 T13 := by rw [eT13]; exact x7.set (by decide)
    refine wpAnyH_all y6 (by decide) fun i hi => ?_
    obtain rfl := List.mem_singleton.1 hi
    refine wpOp_val h0 g0 (run_b0 W1 p0) ⟨Below.alloc b1 b1.size _, ?_⟩
    rw [d0]
    obtain ⟨W2, eW2⟩ : ∃ W2, W2 = W1.alloc (.cells #[] 29) := ⟨_, rfl⟩
    have b2 : Below w.heap.size w W2 := by rw [eW2]; exact Below.alloc b1 b1.size _
    have oe2 : OwnI W2 w.heap.size (.slice (some ⟨W1.heap.size, 0, none⟩) 0 0) [] := by rw [eW2]; exact ownI_empty (hpS _ _ _ rfl) b1.size
    have hx2 : W2.heap[w.heap.size]? = some (Obj.cells #[.int .i64 S, .int .i64 K, .int .u64 T, .int .u64 V, .int .i64 X] 29) := by rw [eW2]; exact hpO _ hx1
    have hne : w.heap.size ≠ W1.heap.size := by rw [eW1, Deep.nblk_alloc]; show w.heap.size ≠ w.heap.size + 1; omega
    show wpAnyH _ _ _ _ _ _ _ ⟨T13.setIfInBounds 113 (.slice (some ⟨W1.heap.size, 0, none⟩) 0 0), D⟩ (W1.alloc (.cells #[] 29))
    rw [← eW2]
    obtain ⟨T14, eT14⟩ : ∃ U, U = T13.setIfInBounds 113 (.slice (some ⟨W1.heap.size, 0, none⟩) 0 0) := ⟨_, rfl⟩
    rw [← eT14]
    have sT14 : T14.size = 270 := by rw [eT14, Array.size_setIfInBounds]; exact sT13
    have c8_14 : T14[8]? = some (.slice ao n cap) := by rw [eT14]; exact (gs_other (by decide)).trans c8_13
    have c15_14 : T14[15]? = some (.int .i64 k) := by rw [eT14]; exact (gs_other (by decide)).trans c15_13
    have c11_14 : T14[11]? = some (.pointer (some ⟨R, 0, none⟩)) := by rw [eT14]; exact (gs_other (by decide)).trans c11_13
    have c114_14 : T14[114]? = some (.slice ao n cap) := by rw [eT14]; exact (gs_other (by decide)).trans c114_13
    have c115_14 : T14[115]? = some (.int .i64 k) := by rw [eT14]; exact (gs_other (by decide)).trans c115_13
    have c116_14 : T14[116]? = some (.slice (cut5 ao cap 0) k cap) := by rw [eT14]; exact (gs_other (by decide)).trans c116_13
    have c121_14 : T14[121]? = some (.slice ao n cap) := by rw [eT14]; exact (gs_other (by decide)).trans c121_13
    have c122_14 : T14[122]? = some (.int .i64 k) := by rw [eT14]; exact (gs_other (by decide)).trans c122_13
    have c123_14 : T14[123]? = some (.slice (cut5 ao cap k) (n - k) (cap - k)) := by rw [eT14]; exact (gs_other (by decide)).trans c123_13
    have c118_14 : T14[118]? = some (.agg #[.int .i64 S, .int .i64 K, .int .u64 T, .int .u64 V, .int .i64 X]) := by rw [eT14]; exact (gs_other (by decide)).trans c118_13
    have c119_14 : T14[119]? = some (.slice (some ⟨w.heap.size, 0, none⟩) 1 1) := by rw [eT14]; exact (gs_other (by decide)).trans c119_13
    have c113_14 : T14[113]? = some (.slice (some ⟨W1.heap.size, 0, none⟩) 0 0) := by rw [eT14]; exact gs_same (by rw [sT13]; decide)
    have x14 : Keeps 113 8 T0 T14 := by rw [eT14]; exact x13.set (by decide)
    refine wpAnyH_all y6_0 (by decide) fun i hi => ?_
    obtain rfl := List.mem_singleton.1 hi
    refine wpOp_go h4 (step_append_items g4 _ _ p4 w.heap.size _ [] (ev_of c113_14) oe2 _ k cap (l.take k) (ev_of c116_14) (hI1 W2 b2) hl1 b2.size ?_)
    intro v4 w4 ow4 gr4 k4
    have b4 : Below w.heap.size w w4 := b2.grown gr4 b2.size k4
    refine ⟨b4, ?_⟩
    rw [d4]
    show wpAnyH _ _ _ _ _ _ ((((((((((((Array.replicate 13 false).setIfInBounds 1 true).setIfInBounds 2 true).setIfInBounds 3 true).setIfInBounds 8 true).setIfInBounds 9 true).setIfInBounds 10 true).setIfInBounds 5 true)).setIfInBounds 6 true).setIfInBounds 0 true).setIfInBounds 4 true) ⟨T14.setIfInBounds 117 v4, D⟩ w4
    rw [sw_lst (i := 6) (j := 0) (by decide), sw_lst (i := 6) (j := 4) (by decide)]
    obtain ⟨T15, eT15⟩ : ∃ U, U = T14.setIfInBounds 117 (v4) := ⟨_, rfl⟩
    rw [← eT15]
    have sT15 : T15.size = 270 := by rw [eT15, Array.size_setIfInBounds]; exact sT14
    have c8_15 : T15[8]? = some (.slice ao n cap) := by rw [eT15]; exact (gs_other (by decide)).trans c8_14
    have c15_15 : T15[15]? = some (.int .i64 k) := by rw [eT15]; exact (gs_other (by decide)).trans c15_14
    have c11_15 : T15[11]? = some (.pointer (some ⟨R, 0, none⟩)) := by rw [eT15]; exact (gs_other (by decide)).trans c11_14
    have c114_15 : T15[114]? = some (.slice ao n cap) := by rw [eT15]; exact (gs_other (by decide)).trans c114_14
    have c115_15 : T15[115]? = some (.int .i64 k) := by rw [eT15]; exact (gs_other (by decide)).trans c115_14
    have c116_15 : T15[116]? = some (.slice (cut5 ao cap 0) k cap) := by rw [eT15]; exact (gs_other (by decide)).trans c116_14
    have c121_15 : T15[121]? = some (.slice ao n cap) := by rw [eT15]; exact (gs_other (by decide)).trans c121_14
    have c122_15 : T15[122]? = some (.int .i64 k) := by rw [eT15]; exact (gs_other (by decide)).trans c122_14
    have c123_15 : T15[123]? = some (.slice (cut5 ao cap k) (n - k) (cap - k)) := by rw [eT15]; exact (gs_other (by decide)).trans c123_14
    have c118_15 : T15[118]? = some (.agg #[.int .i64 S, .int .i64 K, .int .u64 T, .int .u64 V, .int .i64 X]) := by rw [eT15]; exact (gs_other (by decide)).trans c118_14
    have c119_15 : T15[119]? = some (.slice (some ⟨w.heap.size, 0, none⟩) 1 1) := by rw [eT15]; exact (gs_other (by decide)).trans c119_14
    have c113_15 : T15[113]? = some (.slice (some ⟨W1.heap.size, 0, none⟩) 0 0) := by rw [eT15]; exact (gs_other (by decide)).trans c113_14
    have c117_15 : T15[117]? = some (v4) := by rw [eT15]; exact gs_same (by rw [sT14]; decide)
    have x15 : Keeps 113 8 T0 T15 := by rw [eT15]; exact x14.set (by decide)
    exact hend T15 v4 w.heap.size w4 sT15 x15 c117_15 c119_15 c123_15 ow4 (is_block hwf (hpG gr4 hx2 (fun e => hne (by injection e)))) b4

set_option maxHeartbeats 1000000 in
theorem reg24 {ops : Array Oper} {Q : Exit → Act → World → Prop} {T0 : Array Value} {D : List Deferred} {w : World} {id : Nat} (hsz : T0.size = 270)
    (q0 : Opi ops 0 (.buildSlice 23 0 #[]) 125)
    (q1 : Opi ops 1 (.move (.tmp 9)) 126)
    (q2 : Opi ops 2 (.move (.tmp 15)) 127)
    (q3 : Opi ops 3 (.slice 23 (.tmp 126) none (some (.tmp 127)) none) 128)
    (q4 : Opi ops 4 (.call { callee := .builtin .append, args := #[.tmp 125, .tmp 128], argTypes := #[23, 23] }) 129)
    (q5 : Opi ops 5 (.move (.tmp 12)) 130)
    (q6 : Opi ops 6 (.buildSlice 23 1 #[(0, .tmp 130)]) 131)
    (q7 : Opi ops 7 (.call { callee := .builtin .append, args := #[.tmp 129, .tmp 131], argTypes := #[23, 23] }) 132)
    (q8 : Opi ops 8 (.move (.tmp 9)) 133)
    (q9 : Opi ops 9 (.move (.tmp 15)) 134)
    (q10 : Opi ops 10 (.slice 23 (.tmp 133) (some (.tmp 134)) none none) 135)
    (q11 : Opi ops 11 (.call { callee := .builtin .append, args := #[.tmp 132, .tmp 135], argTypes := #[23, 23] }) 136)
    (q12 : Opi ops 12 (.assign (.tmp 136)) 9)
    (hns : Region.noSelect ops = true) (hm : Try.prog.follows .mixedOrders = true) (hop : ops.size = 13)
    (f1 : Region.free .any ops ((Array.replicate 13 false)) 1 = true) (r1 : (Region.ready .any ops ((Array.replicate 13 false))).contains 1 = true)
    (f2 : Region.free .any ops (((Array.replicate 13 false).setIfInBounds 1 true)) 2 = true) (r2 : (Region.ready .any ops (((Array.replicate 13 false).setIfInBounds 1 true))).contains 2 = true)
    (f3 : Region.free .any ops ((((Array.replicate 13 false).setIfInBounds 1 true).setIfInBounds 2 true)) 3 = true) (r3 : (Region.ready .any ops ((((Array.replicate 13 false).setIfInBounds 1 true).setIfInBounds 2 true))).contains 3 = true)
    (f8 : Region.free .any ops (((((Array.replicate 13 false).setIfInBounds 1 true).setIfInBounds 2 true).setIfInBounds 3 true)) 8 = true) (r8 : (Region.ready .any ops (((((Array.replicate 13 false).setIfInBounds 1 true).setIfInBounds 2 true).setIfInBounds 3 true))).contains 8 = true)
    (f9 : Region.free .any ops ((((((Array.replicate 13 false).setIfInBounds 1 true).setIfInBounds 2 true).setIfInBounds 3 true).setIfInBounds 8 true)) 9 = true) (r9 : (Region.ready .any ops ((((((Array.replicate 13 false).setIfInBounds 1 true).setIfInBounds 2 true).setIfInBounds 3 true).setIfInBounds 8 true))).contains 9 = true)
    (f10 : Region.free .any ops (((((((Array.replicate 13 false).setIfInBounds 1 true).setIfInBounds 2 true).setIfInBounds 3 true).setIfInBounds 8 true).setIfInBounds 9 true)) 10 = true) (r10 : (Region.ready .any ops (((((((Array.replicate 13 false).setIfInBounds 1 true).setIfInBounds 2 true).setIfInBounds 3 true).setIfInBounds 8 true).setIfInBounds 9 true))).contains 10 = true)
    (f5 : Region.free .any ops ((((((((Array.replicate 13 false).setIfInBounds 1 true).setIfInBounds 2 true).setIfInBounds 3 true).setIfInBounds 8 true).setIfInBounds 9 true).setIfInBounds 10 true)) 5 = true) (r5 : (Region.ready .any ops ((((((((Array.replicate 13 false).setIfInBounds 1 true).setIfInBounds 2 true).setIfInBounds 3 true).setIfInBounds 8 true).setIfInBounds 9 true).setIfInBounds 10 true))).contains 5 = true)
    (yn : Region.ready .any ops (((((((((Array.replicate 13 false).setIfInBounds 1 true).setIfInBounds 2 true).setIfInBounds 3 true).setIfInBounds 8 true).setIfInBounds 9 true).setIfInBounds 10 true).setIfInBounds 5 true)) = [0, 6])
    (y0 : Region.ready .any ops ((((((((((Array.replicate 13 false).setIfInBounds 1 true).setIfInBounds 2 true).setIfInBounds 3 true).setIfInBounds 8 true).setIfInBounds 9 true).setIfInBounds 10 true).setIfInBounds 5 true).setIfInBounds 0 true)) = [4, 6])
    (y0_4 : Region.ready .any ops (((((((((((Array.replicate 13 false).setIfInBounds 1 true).setIfInBounds 2 true).setIfInBounds 3 true).setIfInBounds 8 true).setIfInBounds 9 true).setIfInBounds 10 true).setIfInBounds 5 true).setIfInBounds 0 true).setIfInBounds 4 true)) = [6])
    (y0_6 : Region.ready .any ops (((((((((((Array.replicate 13 false).setIfInBounds 1 true).setIfInBounds 2 true).setIfInBounds 3 true).setIfInBounds 8 true).setIfInBounds 9 true).setIfInBounds 10 true).setIfInBounds 5 true).setIfInBounds 0 true).setIfInBounds 6 true)) = [4])
    (y6 : Region.ready .any ops ((((((((((Array.replicate 13 false).setIfInBounds 1 true).setIfInBounds 2 true).setIfInBounds 3 true).setIfInBounds 8 true).setIfInBounds 9 true).setIfInBounds 10 true).setIfInBounds 5 true).setIfInBounds 6 true)) = [0])
    (y6_0 : Region.ready .any ops (((((((((((Array.replicate 13 false).setIfInBounds 1 true).setIfInBounds 2 true).setIfInBounds 3 true).setIfInBounds 8 true).setIfInBounds 9 true).setIfInBounds 10 true).setIfInBounds 5 true).setIfInBounds 6 true).setIfInBounds 0 true)) = [4])
    (y0_4_6 : Region.ready .any ops ((((((((((((Array.replicate 13 false).setIfInBounds 1 true).setIfInBounds 2 true).setIfInBounds 3 true).setIfInBounds 8 true).setIfInBounds 9 true).setIfInBounds 10 true).setIfInBounds 5 true).setIfInBounds 0 true).setIfInBounds 4 true).setIfInBounds 6 true)) = [7])
    (y0_4_6_7 : Region.ready .any ops (((((((((((((Array.replicate 13 false).setIfInBounds 1 true).setIfInBounds 2 true).setIfInBounds 3 true).setIfInBounds 8 true).setIfInBounds 9 true).setIfInBounds 10 true).setIfInBounds 5 true).setIfInBounds 0 true).setIfInBounds 4 true).setIfInBounds 6 true).setIfInBounds 7 true)) = [11])
    (y0_4_6_7_11 : Region.ready .any ops ((((((((((((((Array.replicate 13 false).setIfInBounds 1 true).setIfInBounds 2 true).setIfInBounds 3 true).setIfInBounds 8 true).setIfInBounds 9 true).setIfInBounds 10 true).setIfInBounds 5 true).setIfInBounds 0 true).setIfInBounds 4 true).setIfInBounds 6 true).setIfInBounds 7 true).setIfInBounds 11 true)) = [12])
    (y0_4_6_7_11_12 : Region.ready .any ops (((((((((((((((Array.replicate 13 false).setIfInBounds 1 true).setIfInBounds 2 true).setIfInBounds 3 true).setIfInBounds 8 true).setIfInBounds 9 true).setIfInBounds 10 true).setIfInBounds 5 true).setIfInBounds 0 true).setIfInBounds 4 true).setIfInBounds 6 true).setIfInBounds 7 true).setIfInBounds 11 true).setIfInBounds 12 true)) = [])
    {ao : Option Addr} {n cap k : Nat} {l : List Int} {z : Int} (t9 : T0[9]? = some (.slice ao n cap)) (t15 : T0[15]? = some (.int .i64 k)) (t12 : T0[12]? = some (.int .i64 z))
    (hI : ZrF w ao n cap l)
    (hk : k ≤ n) (hcap : cap ≤ 9223372036854775807) (hnc : n ≤ cap) (hn : n ≤ 1000) (hQ : ∀ c T U E w, Q (.panic c) ⟨T, E⟩ w → Q (.panic c) ⟨U, E⟩ w)
    (hfin : ∀ T' v w', Ext 125 9 T0 T' v → OwnZ w' w.heap.size v (l.take k ++ [z] ++ l.drop k) → Below w.heap.size w w' → Q .normal ⟨T', D⟩ w') :
    (Code.region id ops true).wp Try.prog Q ⟨T0, D⟩ w := by
  obtain ⟨o0, h0, p0, d0, g0⟩ := q0
  obtain ⟨o1, h1, p1, d1, g1⟩ := q1
  obtain ⟨o2, h2, p2, d2, g2⟩ := q2
  obtain ⟨o3, h3, p3, d3, g3⟩ := q3
  obtain ⟨o4, h4, p4, d4, g4⟩ := q4
  obtain ⟨o5, h5, p5, d5, g5⟩ := q5
  obtain ⟨o6, h6, p6, d6, g6⟩ := q6
  obtain ⟨o7, h7, p7, d7, g7⟩ := q7
  obtain ⟨o8, h8, p8, d8, g8⟩ := q8
  obtain ⟨o9, h9, p9, d9, g9⟩ := q9
  obtain ⟨o10, h10, p10, d10, g10⟩ := q10
  obtain ⟨o11, h11, p11, d11, g11⟩ := q11
  obtain ⟨o12, h12, p12, d12, g12⟩ := q12
  have hI1 : ∀ W, Below w.heap.size w W → Zr W (cut1 ao cap 0) k cap (l.take k) := fun W hW => zr_s1 (hI.below hW) hk
  have hI3 : ∀ W, Below w.heap.size w W → Zr W (cut1 ao cap k) (n - k) (cap - k) (l.drop k) := fun W hW => zr_s3 (hI.below hW) hk
  have hln : l.length = n := hI.1
  have hl1 : ([] : List Int).length + k ≤ 1099511627776 := by simp; omega
  have hl2 : (l.take k).length + 1 ≤ 1099511627776 := by rw [List.length_take]; omega
  have hl3 : (l.take k ++ [z]).length + (n - k) ≤ 1099511627776 := by rw [List.length_append, List.length_take]; simp; omega
  refine wp_region_held_drew (S := fun W => Below w.heap.size w W) hm (Below.refl _ _).drew (fun hS => ?_)
  rw [hop]
  have x0 : Keeps 125 9 T0 T0 := ⟨rfl, fun j _ _ => rfl⟩
  refine take_val (v := .slice ao n cap) h1 d1 g1 hns f1 r1 hQ (fun W _ => (run_mv W p1).trans (by rw [ev_of t9])) hS ?_
  obtain ⟨T1, eT1⟩ : ∃ U, U = T0.setIfInBounds 126 (.slice ao n cap) := ⟨_, rfl⟩
  rw [← eT1]
  have sT1 : T1.size = 270 := by rw [eT1, Array.size_setIfInBounds]; exact hsz
  have c9_1 : T1[9]? = some (.slice ao n cap) := by rw [eT1]; exact (gs_other (by decide)).trans t9
  have c15_1 : T1[15]? = some (.int .i64 k) := by rw [eT1]; exact (gs_other (by decide)).trans t15
  have c12_1 : T1[12]? = some (.int .i64 z) := by rw [eT1]; exact (gs_other (by decide)).trans t12
  have c126_1 : T1[126]? = some (.slice ao n cap) := by rw [eT1]; exact gs_same (by rw [hsz]; decide)
  have x1 : Keeps 125 9 T0 T1 := by rw [eT1]; exact x0.set (by decide)
  refine take_val (v := .int .i64 k) h2 d2 g2 hns f2 r2 hQ (fun W _ => (run_mv W p2).trans (by rw [ev_of c15_1])) hS ?_
  obtain ⟨T2, eT2⟩ : ∃ U, U = T1.setIfInBounds 127 (.int .i64 k) := ⟨_, rfl⟩
  rw [← eT2]
  have sT2 : T2.size = 270 := by rw [eT2, Array.size_setIfInBounds]; exact sT1
  have c9_2 : T2[9]? = some (.slice ao n cap) := by rw [eT2]; exact (gs_other (by decide)).trans c9_1
  have c15_2 : T2[15]? = some (.int .i64 k) := by rw [eT2]; exact (gs_other (by decide)).trans c15_1
  have c12_2 : T2[12]? = some (.int .i64 z) := by rw [eT2]; exact (gs_other (by decide)).trans c12_1
  have c126_2 : T2[126]? = some (.slice ao n cap) := by rw [eT2]; exact (gs_other (by decide)).trans c126_1
  have c127_2 : T2[127]? = some (.int .i64 k) := by rw [eT2]; exact gs_same (by rw [sT1]; decide)
  have x2 : Keeps 125 9 T0 T2 := by rw [eT2]; exact x1.set (by decide)
  refine take_val (v := .slice (cut1 ao cap 0) k cap) h3 d3 g3 hns f3 r3 hQ (fun W _ => run_z1 W p3 (ev_of c126_2) (ev_of c127_2) (by omega) hcap) hS ?_
  obtain ⟨T3, eT3⟩ : ∃ U, U = T2.setIfInBounds 128 (.slice (cut1 ao cap 0) k cap) := ⟨_, rfl⟩
  rw [← eT3]
  have sT3 : T3.size = 270 := by rw [eT3, Array.size_setIfInBounds]; exact sT2
  have c9_3 : T3[9]? = some (.slice ao n cap) := by rw [eT3]; exact (gs_other (by decide)).trans c9_2
  have c15_3 : T3[15]? = some (.int .i64 k) := by rw [eT3]; exact (gs_other (by decide)).trans c15_2
  have c12_3 : T3[12]? = some (.int .i64 z) := by rw [eT3]; exact (gs_other (by decide)).trans c12_2
  have c126_3 : T3[126]? = some (.slice ao n cap) := by rw [eT3]; exact (gs_other (by decide)).trans c126_2
  have c127_3 : T3[127]? = some (.int .i64 k) := by rw [eT3]; exact (gs_other (by decide)).trans c127_2
  have c128_3 : T3[128]? = some (.slice (cut1 ao cap 0) k cap) := by rw [eT3]; exact gs_same (by rw [sT2]; decide)
  have x3 : Keeps 125 9 T0 T3 := by rw [eT3]; exact x2.set (by decide)
  refine take_val (v := .slice ao n cap) h8 d8 g8 hns f8 r8 hQ (fun W _ => (run_mv W p8).trans (by rw [ev_of c9_3])) hS ?_
  obtain ⟨T4, eT4⟩ : ∃ U, U = T3.setIfInBounds 133 (.slice ao n cap) := ⟨_, rfl⟩
  rw [← eT4]
  have sT4 : T4.size = 270 := by rw [eT4, Array.size_setIfInBounds]; exact sT3
  have c9_4 : T4[9]? = some (.slice ao n cap) := by rw [eT4]; exact (gs_other (by decide)).trans c9_3
  have c15_4 : T4[15]? = some (.int .i64 k) := by rw [eT4]; exact (gs_other (by decide)).trans c15_3
  have c12_4 : T4[12]? = some (.int .i64 z) := by rw [eT4]; exact (gs_other (by decide)).trans c12_3
  have c126_4 : T4[126]? = some (.slice ao n cap) := by rw [eT4]; exact (gs_other (by decide)).trans c126_3
  have c127_4 : T4[127]? = some (.int .i64 k) := by rw [eT4]; exact (gs_other (by decide)).trans c127_3
  have c128_4 : T4[128]? = some (.slice (cut1 ao cap 0) k cap) := by rw [eT4]; exact (gs_other (by decide)).trans c128_3
  have c133_4 : T4[133]? = some (.slice ao n cap) := by rw [eT4]; exact gs_same (by rw [sT3]; decide)
  have x4 : Keeps 125 9 T0 T4 := by rw [eT4]; exact x3.set (by decide)
  refine take_val (v := .int .i64 k) h9 d9 g9 hns f9 r9 hQ (fun W _ => (run_mv W p9).trans (by rw [ev_of c15_4])) hS ?_
  obtain ⟨T5, eT5⟩ : ∃ U, U = T4.setIfInBounds 134 (.int .i64 k) := ⟨_, rfl⟩
  rw [← eT5]
  have sT5 : T5.size = 270 := by rw [eT5, Array.size_setIfInBounds]; exact sT4
  have c9_5 : T5[9]? = some (.slice ao n cap) := by rw [eT5]; exact (gs_other (by decide)).trans c9_4
  have c15_5 : T5[15]? = some (.int .i64 k) := by rw [eT5]; exact (gs_other (by decide)).trans c15_4
  have c12_5 : T5[12]? = some (.int .i64 z) := by rw [eT5]; exact (gs_other (by decide)).trans c12_4
  have c126_5 : T5[126]? = some (.slice ao n cap) := by rw [eT5]; exact (gs_other (by decide)).trans c126_4
  have c127_5 : T5[127]? = some (.int .i64 k) := by rw [eT5]; exact (gs_other (by decide)).trans c127_4
  have c128_5 : T5[128]? = some (.slice (cut1 ao cap 0) k cap) := by rw [eT5]; exact (gs_other (by decide)).trans c128_4
  have c133_5 : T5[133]? = some (.slice ao n cap) := by rw [eT5]; exact (gs_other (by decide)).trans c133_4
  have c134_5 : T5[134]? = some (.int .i64 k) := by rw [eT5]; exact gs_same (by rw [sT4]; decide)
  have x5 : Keeps 125 9 T0 T5 := by rw [eT5]; exact x4.set (by decide)
  refine take_val (v := .slice (cut1 ao cap k) (n - k) (cap - k)) h10 d10 g10 hns f10 r10 hQ (fun W _ => run_z3 W p10 (ev_of c133_5) (ev_of c134_5) hk hnc hcap) hS ?_
  obtain ⟨T6, eT6⟩ : ∃ U, U = T5.setIfInBounds 135 (.slice (cut1 ao cap k) (n - k) (cap - k)) := ⟨_, rfl⟩
  rw [← eT6]
  have sT6 : T6.size = 270 := by rw [eT6, Array.size_setIfInBounds]; exact sT5
  have c9_6 : T6[9]? = some (.slice ao n cap) := by rw [eT6]; exact (gs_other (by decide)).trans c9_5
  have c15_6 : T6[15]? = some (.int .i64 k) := by rw [eT6]; exact (gs_other (by decide)).trans c15_5
  have c12_6 : T6[12]? = some (.int .i64 z) := by rw [eT6]; exact (gs_other (by decide)).trans c12_5
  have c126_6 : T6[126]? = some (.slice ao n cap) := by rw [eT6]; exact (gs_other (by decide)).trans c126_5
  have c127_6 : T6[127]? = some (.int .i64 k) := by rw [eT6]; exact (gs_other (by decide)).trans c127_5
  have c128_6 : T6[128]? = some (.slice (cut1 ao cap 0) k cap) := by rw [eT6]; exact (gs_other (by decide)).trans c128_5
  have c133_6 : T6[133]? = some (.slice ao n cap) := by rw [eT6]; exact (gs_other (by decide)).trans c133_5
  have c134_6 : T6[134]? = some (.int .i64 k) := by rw [eT6]; exact (gs_other (by decide)).trans c134_5
  have c135_6 : T6[135]? = some (.slice (cut1 ao cap k) (n - k) (cap - k)) := by rw [eT6]; exact gs_same (by rw [sT5]; decide)
  have x6 : Keeps 125 9 T0 T6 := by rw [eT6]; exact x5.set (by decide)
  refine take_val (v := .int .i64 z) h5 d5 g5 hns f5 r5 hQ (fun W _ => (run_mv W p5).trans (by rw [ev_of c12_6])) hS ?_
  obtain ⟨T7, eT7⟩ : ∃ U, U = T6.setIfInBounds 130 (.int .i64 z) := ⟨_, rfl⟩
  rw [← eT7]
  have sT7 : T7.size = 270 := by rw [eT7, Array.size_setIfInBounds]; exact sT6
  have c9_7 : T7[9]? = some (.slice ao n cap) := by rw [eT7]; exact (gs_other (by decide)).trans c9_6
  have c15_7 : T7[15]? = some (.int .i64 k) := by rw [eT7]; exact (gs_other (by decide)).trans c15_6
  have c12_7 : T7[12]? = some (.int .i64 z) := by rw [eT7]; exact (gs_other (by decide)).trans c12_6
  have c126_7 : T7[126]? = some (.slice ao n cap) := by rw [eT7]; exact (gs_other (by decide)).trans c126_6
  have c127_7 : T7[127]? = some (.int .i64 k) := by rw [eT7]; exact (gs_other (by decide)).trans c127_6
  have c128_7 : T7[128]? = some (.slice (cut1 ao cap 0) k cap) := by rw [eT7]; exact (gs_other (by decide)).trans c128_6
  have c133_7 : T7[133]? = some (.slice ao n cap) := by rw [eT7]; exact (gs_other (by decide)).trans c133_6
  have c134_7 : T7[134]? = some (.int .i64 k) := by rw [eT7]; exact (gs_other (by decide)).trans c134_6
  have c135_7 : T7[135]? = some (.slice (cut1 ao cap k) (n - k) (cap - k)) := by rw [eT7]; exact (gs_other (by decide)).trans c135_6
  have c130_7 : T7[130]? = some (.int .i64 z) := by rw [eT7]; exact gs_same (by rw [sT6]; decide)
  have x7 : Keeps 125 9 T0 T7 := by rw [eT7]; exact x6.set (by decide)
  have hend : ∀ (U : Array Value) (v4 : Value) (p : Nat) (W : World), U.size = 270 → Keeps 125 9 T0 U → U[129]? = some v4 → U[131]? = some (.slice (some ⟨p, 0, none⟩) 1 1) → U[135]? = some (.slice (cut1 ao cap k) (n - k) (cap - k)) →
      OwnZ W w.heap.size v4 (l.take k) → Zr W (some ⟨p, 0, none⟩) 1 1 [z] → Below w.heap.size w W → wpAnyH Try.prog .any ops Q (fun W => Below w.heap.size w W) 3 ((((((((((((Array.replicate 13 false).setIfInBounds 1 true).setIfInBounds 2 true).setIfInBounds 3 true).setIfInBounds 8 true).setIfInBounds 9 true).setIfInBounds 10 true).setIfInBounds 5 true).setIfInBounds 0 true).setIfInBounds 4 true).setIfInBounds 6 true)) ⟨U, D⟩ W := by
    intro U v4 p W uz ux u4 u6 u10 ow ib hW
    refine wpAnyH_all y0_4_6 (by decide) fun i hi => ?_
    obtain rfl := List.mem_singleton.1 hi
    refine wpOp_go h7 (step_append_ints g7 _ _ p7 w.heap.size v4 (l.take k) (ev_of u4) ow _ 1 1 [z] (ev_of u6) ib hl2 hW.size ?_)
    intro v5 w5 ow5 gr5 k5
    have b5 : Below w.heap.size w w5 := hW.grown gr5 hW.size k5
    refine ⟨b5, ?_⟩
    rw [d7]
    show wpAnyH _ _ _ _ _ _ _ ⟨U.setIfInBounds 132 v5, D⟩ w5
    refine wpAnyH_all y0_4_6_7 (by decide) fun i hi => ?_
    obtain rfl := List.mem_singleton.1 hi
    refine wpOp_go h11 (step_append_ints g11 _ _ p11 w.heap.size v5 (l.take k ++ [z]) (ev_of (gs_same (by rw [uz]; decide))) ow5 _ (n - k) (cap - k) (l.drop k) (ev_of ((gs_other (by decide)).trans u10)) (hI3 w5 b5) hl3 b5.size ?_)
    intro v6 w6 ow6 gr6 k6
    have b6 : Below w.heap.size w w6 := b5.grown gr6 b5.size k6
    refine ⟨b6, ?_⟩
    rw [d11]
    show wpAnyH _ _ _ _ _ _ _ ⟨(U.setIfInBounds 132 v5).setIfInBounds 136 v6, D⟩ w6
    refine wpAnyH_all y0_4_6_7_11 (by decide) fun i hi => ?_
    obtain rfl := List.mem_singleton.1 hi
    refine wpOp_val h12 g12 (run_as w6 p12) ⟨b6, ?_⟩
    rw [d12, ev_of (gs_same (by rw [Array.size_setIfInBounds, uz]; decide))]
    show wpAnyH _ _ _ _ _ _ _ ⟨((U.setIfInBounds 132 v5).setIfInBounds 136 v6).setIfInBounds 9 v6, D⟩ w6
    refine wpAnyH_done y0_4_6_7_11_12 (hfin _ v6 w6 ?_ ow6 b6) _
    exact ((ux.set (by decide)).set (by decide)).last v6 (by rw [Array.size_setIfInBounds, Array.size_setIfInBounds, uz]; decide)
  refine wpAnyH_all yn (by decide) fun i hi => ?_
  rcases List.mem_cons.1 hi with rfl | hi
  · refine wpOp_val h0 g0 (run_z0 _ p0) ⟨Below.alloc hS hS.size _, ?_⟩
    rw [d0]
    obtain ⟨W1, eW1⟩ : ∃ W1, W1 = w.drew.alloc (.cells #[] 3) := ⟨_, rfl⟩
    have b1 : Below w.heap.size w W1 := by rw [eW1]; exact Below.alloc hS hS.size _
    have oe : OwnZ W1 w.heap.size (.slice (some ⟨w.heap.size, 0, none⟩) 0 0) [] := by rw [eW1]; exact ownZ_empty (hpS _ _ _ rfl) (Nat.le_refl _)
    show wpAnyH _ _ _ _ _ _ _ ⟨T7.setIfInBounds 125 (.slice (some ⟨w.heap.size, 0, none⟩) 0 0), D⟩ (w.drew.alloc (.cells #[] 3))
    rw [← eW1]
    obtain ⟨T8, eT8⟩ : ∃ U, U = T7.setIfInBounds 125 (.slice (some ⟨w.heap.size, 0, none⟩) 0 0) := ⟨_, rfl⟩
    rw [← eT8]
    have sT8 : T8.size = 270 := by rw [eT8, Array.size_setIfInBounds]; exact sT7
    have c9_8 : T8[9]? = some (.slice ao n cap) := by rw [eT8]; exact (gs_other (by decide)).trans c9_7
    have c15_8 : T8[15]? = some (.int .i64 k) := by rw [eT8]; exact (gs_other (by decide)).trans c15_7
    have c12_8 : T8[12]? = some (.int .i64 z) := by rw [eT8]; exact (gs_other (by decide)).trans c12_7
    have c126_8 : T8[126]? = some (.slice ao n cap) := by rw [eT8]; exact (gs_other (by decide)).trans c126_7
    have c127_8 : T8[127]? = some (.int .i64 k) := by rw [eT8]; exact (gs_other (by decide)).trans c127_7
    have c128_8 : T8[128]? = some (.slice (cut1 ao cap 0) k cap) := by rw [eT8]; exact (gs_other (by decide)).trans c128_7
    have c133_8 : T8[133]? = some (.slice ao n cap) := by rw [eT8]; exact (gs_other (by decide)).trans c133_7
    have c134_8 : T8[134]? = some (.int .i64 k) := by rw [eT8]; exact (gs_other (by decide)).trans c134_7
    have c135_8 : T8[135]? = some (.slice (cut1 ao cap k) (n - k) (cap - k)) := by rw [eT8]; exact (gs_other (by decide)).trans c135_7
    have c130_8 : T8[130]? = some (.int .i64 z) := by rw [eT8]; exact (gs_other (by decide)).trans c130_7
    have c125_8 : T8[125]? = some (.slice (some ⟨w.heap.size, 0, none⟩) 0 0) := by rw [eT8]; exact gs_same (by rw [sT7]; decide)
    have x8 : Keeps 125 9 T0 T8 := by rw [eT8]; exact x7.set (by decide)
    refine wpAnyH_all y0 (by decide) fun i hi => ?_
    rcases List.mem_cons.1 hi with rfl | hi
    · refine wpOp_go h4 (step_append_ints g4 _ _ p4 w.heap.size _ [] (ev_of c125_8) oe _ k cap (l.take k) (ev_of c128_8) (hI1 W1 b1) hl1 b1.size ?_)
      intro v4 w4 ow4 gr4 k4
      have b4 : Below w.heap.size w w4 := b1.grown gr4 b1.size k4
      refine ⟨b4, ?_⟩
      rw [d4]
      show wpAnyH _ _ _ _ _ _ _ ⟨T8.setIfInBounds 129 v4, D⟩ w4
      obtain ⟨T9, eT9⟩ : ∃ U, U = T8.setIfInBounds 129 (v4) := ⟨_, rfl⟩
      rw [← eT9]
      have sT9 : T9.size = 270 := by rw [eT9, Array.size_setIfInBounds]; exact sT8
      have c9_9 : T9[9]? = some (.slice ao n cap) := by rw [eT9]; exact (gs_other (by decide)).trans c9_8
      have c15_9 : T9[15]? = some (.int .i64 k) := by rw [eT9]; exact (gs_other (by decide)).trans c15_8
      have c12_9 : T9[12]? = some (.int .i64 z) := by rw [eT9]; exact (gs_other (by decide)).trans c12_8
      have c126_9 : T9[126]? = some (.slice ao n cap) := by rw [eT9]; exact (gs_other (by decide)).trans c126_8
      have c127_9 : T9[127]? = some (.int .i64 k) := by rw [eT9]; exact (gs_other (by decide)).trans c127_8
      have c128_9 : T9[128]? = some (.slice (cut1 ao cap 0) k cap) := by rw [eT9]; exact (gs_other (by decide)).trans c128_8
      have c133_9 : T9[133]? = some (.slice ao n cap) := by rw [eT9]; exact (gs_other (by decide)).trans c133_8
      have c134_9 : T9[134]? = some (.int .i64 k) := by rw [eT9]; exact (gs_other (by decide)).trans c134_8
      have c135_9 : T9[135]? = some (.slice (cut1 ao cap k) (n - k) (cap - k)) := by rw [eT9]; exact (gs_other (by decide)).trans c135_8
      have c130_9 : T9[130]? = some (.int .i64 z) := by rw [eT9]; exact (gs_other (by decide)).trans c130_8
      have c125_9 : T9[125]? = some (.slice (some ⟨w.heap.size, 0, none⟩) 0 0) := by rw [eT9]; exact (gs_other (by decide)).trans c125_8
      have c129_9 : T9[129]? = some (v4) := by rw [eT9]; exact gs_same (by rw [sT8]; decide)
      have x9 : Keeps 125 9 T0 T9 := by rw [eT9]; exact x8.set (by decide)
      refine wpAnyH_all y0_4 (by decide) fun i hi => ?_
      obtain rfl := List.mem_singleton.1 hi
      refine wpOp_val h6 g6 (run_z01 w4 p6 (ev_of c130_9)) ⟨Below.alloc b4 b4.size _, ?_⟩
      rw [d6]
      show wpAnyH _ _ _ _ _ _ _ ⟨T9.setIfInBounds 131 (.slice (some ⟨w4.heap.size, 0, none⟩) 1 1), D⟩ _
      obtain ⟨T10, eT10⟩ : ∃ U, U = T9.setIfInBounds 131 (.slice (some ⟨w4.heap.size, 0, none⟩) 1 1) := ⟨_, rfl⟩
      rw [← eT10]
      have sT10 : T10.size = 270 := by rw [eT10, Array.size_setIfInBounds]; exact sT9
      have c9_10 : T10[9]? = some (.slice ao n cap) := by rw [eT10]; exact (gs_other (by decide)).trans c9_9
      have c15_10 : T10[15]? = some (.int .i64 k) := by rw [eT10]; exact (gs_other (by decide)).trans c15_9
      have c12_10 : T10[12]? = some (.int .i64 z) := by rw [eT10]; exact (gs_other (by decide)).trans c12_9
      have c126_10 : T10[126]? = some (.slice ao n cap) := by rw [eT10]; exact (gs_other (by decide)).trans c126_9
      have c127_10 : T10[127]? = some (.int .i64 k) := by rw [eT10]; exact (gs_other (by decide)).trans c127_9
      have c128_10 : T10[128]? = some (.slice (cut1 ao cap 0) k cap) := by rw [eT10]; exact (gs_other (by decide)).trans c128_9
      have c133_10 : T10[133]? = some (.slice ao n cap) := by rw [eT10]; exact (gs_other (by decide)).trans c133_9
      have c134_10 : T10[134]? = some (.int .i64 k) := by rw [eT10]; exact (gs_other (by decide)).trans c134_9
      have c135_10 : T10[135]? = some (.slice (cut1 ao cap k) (n - k) (cap - k)) := by rw [eT10]; exact (gs_other (by decide)).trans c135_9
      have c130_10 : T10[130]? = some (.int .i64 z) := by rw [eT10]; exact (gs_other (by decide)).trans c130_9
      have c125_10 : T10[125]? = some (.slice (some ⟨w.heap.size, 0, none⟩) 0 0) := by rw [eT10]; exact (gs_other (by decide)).trans c125_9
      have c129_10 : T10[129]? = some (v4) := by rw [eT10]; exact (gs_other (by decide)).trans c129_9
      have c131_10 : T10[131]? = some (.slice (some ⟨w4.heap.size, 0, none⟩) 1 1) := by rw [eT10]; exact gs_same (by rw [sT9]; decide)
      have x10 : Keeps 125 9 T0 T10 := by rw [eT10]; exact x9.set (by decide)
      exact hend T10 v4 w4.heap.size _ sT10 x10 c129_10 c131_10 c135_10 (ownZ_keep ow4 ((Below.refl _ _).alloc (Nat.le_refl _) _)) (zr_block (hpS _ _ _ rfl)) (Below.alloc b4 b4.size _)
    · obtain rfl := List.mem_singleton.1 hi
      refine wpOp_val h6 g6 (run_z01 W1 p6 (ev_of c130_8)) ⟨Below.alloc b1 b1.size _, ?_⟩
      rw [d6]
      obtain ⟨W2, eW2⟩ : ∃ W2, W2 = W1.alloc (Obj.cells #[.int .i64 z] 3) := ⟨_, rfl⟩
      have b2 : Below w.heap.size w W2 := by rw [eW2]; exact Below.alloc b1 b1.size _
      have oe2 : OwnZ W2 w.heap.size (.slice (some ⟨w.heap.size, 0, none⟩) 0 0) [] := by rw [eW2]; exact ownZ_keep oe ((Below.refl _ _).alloc (Nat.le_refl _) _)
      have hx2 : W2.heap[W1.heap.size]? = some (Obj.cells #[.int .i64 z] 3) := by rw [eW2]; exact hpS _ _ _ rfl
      have hne : W1.heap.size ≠ w.heap.size := by rw [eW1, Deep.nblk_alloc]; show w.heap.size + 1 ≠ _; omega
      show wpAnyH _ _ _ _ _ _ _ ⟨T8.setIfInBounds 131 (.slice (some ⟨W1.heap.size, 0, none⟩) 1 1), D⟩ (W1.alloc (Obj.cells #[.int .i64 z] 3))
      rw [← eW2]
      obtain ⟨T11, eT11⟩ : ∃ U, U = T8.setIfInBounds 131 (.slice (some ⟨W1.heap.size, 0, none⟩) 1 1) := ⟨_, rfl⟩
      rw [← eT11]
      have sT11 : T11.size = 270 := by rw [eT11, Array.size_setIfInBounds]; exact sT8
      have c9_11 : T11[9]? = some (.slice ao n cap) := by rw [eT11]; exact (gs_other (by decide)).trans c9_8
      have c15_11 : T11[15]? = some (.int .i64 k) := by rw [eT11]; exact (gs_other (by decide)).trans c15_8
      have c12_11 : T11[12]? = some (.int .i64 z) := by rw [eT11]; exact (gs_other (by decide)).trans c12_8
      have c126_11 : T11[126]? = some (.slice ao n cap) := by rw [eT11]; exact (gs_other (by decide)).trans c126_8
      have c127_11 : T11[127]? = some (.int .i64 k) := by rw [eT11]; exact (gs_other (by decide)).trans c127_8
      have c128_11 : T11[128]? = some (.slice (cut1 ao cap 0) k cap) := by rw [eT11]; exact (gs_other (by decide)).trans c128_8
      have c133_11 : T11[133]? = some (.slice ao n cap) := by rw [eT11]; exact (gs_other (by decide)).trans c133_8
      have c134_11 : T11[134]? = some (.int .i64 k) := by rw [eT11]; exact (gs_other (by decide)).trans c134_8
      have c135_11 : T11[135]? = some (.slice (cut1 ao cap k) (n - k) (cap - k)) := by rw [eT11]; exact (gs_other (by decide)).trans c135_8
      have c130_11 : T11[130]? = some (.int .i64 z) := by rw [eT11]; exact (gs_other (by decide)).trans c130_8
      have c125_11 : T11[125]? = some (.slice (some ⟨w.heap.size, 0, none⟩) 0 0) := by rw [eT11]; exact (gs_other (by decide)).trans c125_8
      have c131_11 : T11[131]? = some (.slice (some ⟨W1.heap.size, 0, none⟩) 1 1) := by rw [eT11]; exact gs_same (by rw [sT8]; decide)
      have x11 : Keeps 125 9 T0 T11 := by rw [eT11]; exact x8.set (by decide)
      refine wpAnyH_all y0_6 (by decide) fun i hi => ?_
      obtain rfl := List.mem_singleton.1 hi
      refine wpOp_go h4 (step_append_ints g4 _ _ p4 w.heap.size _ [] (ev_of c125_11) oe2 _ k cap (l.take k) (ev_of c128_11) (hI1 W2 b2) hl1 b2.size ?_)
      intro v4 w4 ow4 gr4 k4
      have b4 : Below w.heap.size w w4 := b2.grown gr4 b2.size k4
      refine ⟨b4, ?_⟩
      rw [d4]
      show wpAnyH _ _ _ _ _ _ ((((((((((((Array.replicate 13 false).setIfInBounds 1 true).setIfInBounds 2 true).setIfInBounds 3 true).setIfInBounds 8 true).setIfInBounds 9 true).setIfInBounds 10 true).setIfInBounds 5 true).setIfInBounds 0 true)).setIfInBounds 6 true).setIfInBounds 4 true) ⟨T11.setIfInBounds 129 v4, D⟩ w4
      rw [sw_lst (by decide : (4 : Nat) ≠ 6)]
      obtain ⟨T12, eT12⟩ : ∃ U, U = T11.setIfInBounds 129 (v4) := ⟨_, rfl⟩
      rw [← eT12]
      have sT12 : T12.size = 270 := by rw [eT12, Array.size_setIfInBounds]; exact sT11
      have c9_12 : T12[9]? = some (.slice ao n cap) := by rw [eT12]; exact (gs_other (by decide)).trans c9_11
      have c15_12 : T12[15]? = some (.int .i64 k) := by rw [eT12]; exact (gs_other (by decide)).trans c15_11
      have c12_12 : T12[12]? = some (.int .i64 z) := by rw [eT12]; exact (gs_other (by decide)).trans c12_11
      have c126_12 : T12[126]? = some (.slice ao n cap) := by rw [eT12]; exact (gs_other (by decide)).trans c126_11
      have c127_12 : T12[127]? = some (.int .i64 k) := by rw [eT12]; exact (gs_other (by decide)).trans c127_11
      have c128_12 : T12[128]? = some (.slice (cut1 ao cap 0) k cap) := by rw [eT12]; exact (gs_other (by decide)).trans c128_11
      have c133_12 : T12[133]? = some (.slice ao n cap) := by rw [eT12]; exact (gs_other (by decide)).trans c133_11
      have c134_12 : T12[134]? = some (.int .i64 k) := by rw [eT12]; exact (gs_other (by decide)).trans c134_11
      have c135_12 : T12[135]? = some (.slice (cut1 ao cap k) (n - k) (cap - k)) := by rw [eT12]; exact (gs_other (by decide)).trans c135_11
      have c130_12 : T12[130]? = some (.int .i64 z) := by rw [eT12]; exact (gs_other (by decide)).trans c130_11
      have c125_12 : T12[125]? = some (.slice (some ⟨w.heap.size, 0, none⟩) 0 0) := by rw [eT12]; exact (gs_other (by decide)).trans c125_11
      have c131_12 : T12[131]? = some (.slice (some ⟨W1.heap.size, 0, none⟩) 1 1) := by rw [eT12]; exact (gs_other (by decide)).trans c131_11
      have c129_12 : T12[129]? = some (v4) := by rw [eT12]; exact gs_same (by rw [sT11]; decide)
      have x12 : Keeps 125 9 T0 T12 := by rw [eT12]; exact x11.set (by decide)
      exact hend T12 v4 W1.heap.size w4 sT12 x12 c129_12 c131_12 c135_12 ow4 (zr_block (hpG gr4 hx2 (fun e => hne (by injection e)))) b4
  · obtain rfl := List.mem_singleton.1 hi
    refine wpOp_val h6 g6 (run_z01 w.drew p6 (ev_of c130_7)) ⟨Below.alloc hS hS.size _, ?_⟩
    rw [d6]
    obtain ⟨W1, eW1⟩ : ∃ W1, W1 = w.drew.alloc (Obj.cells #[.int .i64 z] 3) := ⟨_, rfl⟩
    have b1 : Below w.heap.size w W1 := by rw [eW1]; exact Below.alloc hS hS.size _
    have hx1 : W1.heap[w.heap.size]? = some (Obj.cells #[.int .i64 z] 3) := by rw [eW1]; exact hpS _ _ _ rfl
    show wpAnyH _ _ _ _ _ _ _ ⟨T7.setIfInBounds 131 (.slice (some ⟨w.heap.size, 0, none⟩) 1 1), D⟩ (w.drew.alloc (Obj.cells #[.int .i64 z] 3))
    rw [← eW1]
    obtain ⟨T13, eT13⟩ : ∃ U, U = T7.setIfInBounds 131 (.slice (some ⟨w.heap.size, 0, none⟩) 1 1) := ⟨_, rfl⟩
    rw [← eT13]
    have sT13 : T13.size = 270 := by rw [eT13, Array.size_setIfInBounds]; exact sT7
    have c9_13 : T13[9]? = some (.slice ao n cap) := by rw [eT13]; exact (gs_other (by decide)).trans c9_7
    have c15_13 : T13[15]? = some (.int .i64 k) := by rw [eT13]; exact (gs_other (by decide)).trans c15_7
    have c12_13 : T13[12]? = some (.int .i64 z) := by rw [eT13]; exact (gs_other (by decide)).trans c12_7
    have c126_13 : T13[126]? = some (.slice ao n cap) := by rw [eT13]; exact (gs_other (by decide)).trans c126_7
    have c127_13 : T13[127]? = some (.int .i64 k) := by rw [eT13]; exact (gs_other (by decide)).trans c127_7
    have c128_13 : T13[128]? = some (.slice (cut1 ao cap 0) k cap) := by rw [eT13]; exact (gs_other (by decide)).trans c128_7
    have c133_13 : T13[133]? = some (.slice ao n cap) := by rw [eT13]; exact (gs_other (by decide)).trans c133_7
    have c134_13 : T13[134]? = some (.int .i64 k) := by rw [eT13]; exact (gs_other (by decide)).trans c134_7
    have c135_13 : T13[135]? = some (.slice (cut1 ao cap k) (n - k) (cap - k)) := by rw [eT13]; exact (gs_other (by decide)).trans c135_7
    have c130_13 : T13[130]? = some (.int .i64 z) := by rw [eT13]; exact (gs_other (by decide)).trans c130_7
    have c131_13 : T13[131]? = some (.slice (some ⟨w.heap.size, 0, none⟩) 1 1) := by rw [eT13]; exact gs_same (by rw [sT7]; decide)
    have x13 : Keeps 125 9 T0 T13 := by rw [eT13]; exact x7.set (by decide)
    refine wpAnyH_all y6 (by decide) fun i hi => ?_
    obtain rfl := List.mem_singleton.1 hi
    refine wpOp_val h0 g0 (run_z0 W1 p0) ⟨Below.alloc b1 b1.size _, ?_⟩
    rw [d0]
    obtain ⟨W2, eW2⟩ : ∃ W2, W2 = W1.alloc (.cells #[] 3) := ⟨_, rfl⟩
    have b2 : Below w.heap.size w W2 := by rw [eW2]; exact Below.alloc b1 b1.size _
    have oe2 : OwnZ W2 w.heap.size (.slice (some ⟨W1.heap.size, 0, none⟩) 0 0) [] := by rw [eW2]; exact ownZ_empty (hpS _ _ _ rfl) b1.size
    have hx2 : W2.heap[w.heap.size]? = some (Obj.cells #[.int .i64 z] 3) := by rw [eW2]; exact hpO _ hx1
    have hne : w.heap.size ≠ W1.heap.size := by rw [eW1, Deep.nblk_alloc]; show w.heap.size ≠ w.heap.size + 1; omega
    show wpAnyH _ _ _ _ _ _ _ ⟨T13.setIfInBounds 125 (.slice (some ⟨W1.heap.size, 0, none⟩) 0 0), D⟩ (W1.alloc (.cells #[] 3))
    rw [← eW2]
    obtain ⟨T14, eT14⟩ : ∃ U, U = T13.setIfInBounds 125 (.slice (some ⟨W1.heap.size, 0, none⟩) 0 0) := ⟨_, rfl⟩
    rw [← eT14]
    have sT14 : T14.size = 270 := by rw [eT14, Array.size_setIfInBounds]; exact sT13
    have c9_14 : T14[9]? = some (.slice ao n cap) := by rw [eT14]; exact (gs_other (by decide)).trans c9_13
    have c15_14 : T14[15]? = some (.int .i64 k) := by rw [eT14]; exact (gs_other (by decide)).trans c15_13
    have c12_14 : T14[12]? = some (.int .i64 z) := by rw [eT14]; exact (gs_other (by decide)).trans c12_13
    have c126_14 : T14[126]? = some (.slice ao n cap) := by rw [eT14]; exact (gs_other (by decide)).trans c126_13
    have c127_14 : T14[127]? = some (.int .i64 k) := by rw [eT14]; exact (gs_other (by decide)).trans c127_13
    have c128_14 : T14[128]? = some (.slice (cut1 ao cap 0) k cap) := by rw [eT14]; exact (gs_other (by decide)).trans c128_13
    have c133_14 : T14[133]? = some (.slice ao n cap) := by rw [eT14]; exact (gs_other (by decide)).trans c133_13
    have c134_14 : T14[134]? = some (.int .i64 k) := by rw [eT14]; exact (gs_other (by decide)).trans c134_13
    have c135_14 : T14[135]? = some (.slice (cut1 ao cap k) (n - k) (cap - k)) := by rw [eT14]; exact (gs_other (by decide)).trans c135_13
    have c130_14 : T14[130]? = some (.int .i64 z) := by rw [eT14]; exact (gs_other (by decide)).trans c130_13
    have c131_14 : T14[131]? = some (.slice (some ⟨w.heap.size, 0, none⟩) 1 1) := by rw [eT14]; exact (gs_other (by decide)).trans c131_13
    have c125_14 : T14[125]? = some (.slice (some ⟨W1.heap.size, 0, none⟩) 0 0) := by rw [eT14]; exact gs_same (by rw [sT13]; decide)
    have x14 : Keeps 125 9 T0 T14 := by rw [eT14]; exact x13.set (by decide)
    refine wpAnyH_all y6_0 (by decide) fun i hi => ?_
    obtain rfl := List.mem_singleton.1 hi
    refine wpOp_go h4 (step_append_ints g4 _ _ p4 w.heap.size _ [] (ev_of c125_14) oe2 _ k cap (l.take k) (ev_of c128_14) (hI1 W2 b2) hl1 b2.size ?_)
    intro v4 w4 ow4 gr4 k4
    have b4 : Below w.heap.size w w4 := b2.grown gr4 b2.size k4
    refine ⟨b4, ?_⟩
    rw [d4]
    show wpAnyH _ _ _ _ _ _ ((((((((((((Array.replicate 13 false).setIfInBounds 1 true).setIfInBounds 2 true).setIfInBounds 3 true).setIfInBounds 8 true).setIfInBounds 9 true).setIfInBounds 10 true).setIfInBounds 5 true)).setIfInBounds 6 true).setIfInBounds 0 true).setIfInBounds 4 true) ⟨T14.setIfInBounds 129 v4, D⟩ w4
    rw [sw_lst (i := 6) (j := 0) (by decide), sw_lst (i := 6) (j := 4) (by decide)]
    obtain ⟨T15, eT15⟩ : ∃ U, U = T14.setIfInBounds 129 (v4) := ⟨_, rfl⟩
    rw [← eT15]
    have sT15 : T15.size = 270 := by rw [eT15, Array.size_setIfInBounds]; exact sT14
    have c9_15 : T15[9]? = some (.slice ao n cap) := by rw [eT15]; exact (gs_other (by decide)).trans c9_14
    have c15_15 : T15[15]? = some (.int .i64 k) := by rw [eT15]; exact (gs_other (by decide)).trans c15_14
    have c12_15 : T15[12]? = some (.int .i64 z) := by rw [eT15]; exact (gs_other (by decide)).trans c12_14
    have c126_15 : T15[126]? = some (.slice ao n cap) := by rw [eT15]; exact (gs_other (by decide)).trans c126_14
    have c127_15 : T15[127]? = some (.int .i64 k) := by rw [eT15]; exact (gs_other (by decide)).trans c127_14
    have c128_15 : T15[128]? = some (.slice (cut1 ao cap 0) k cap) := by rw [eT15]; exact (gs_other (by decide)).trans c128_14
    have c133_15 : T15[133]? = some (.slice ao n cap) := by rw [eT15]; exact (gs_other (by decide)).trans c133_14
    have c134_15 : T15[134]? = some (.int .i64 k) := by rw [eT15]; exact (gs_other (by decide)).trans c134_14
    have c135_15 : T15[135]? = some (.slice (cut1 ao cap k) (n - k) (cap - k)) := by rw [eT15]; exact (gs_other (by decide)).trans c135_14
    have c130_15 : T15[130]? = some (.int .i64 z) := by rw [eT15]; exact (gs_other (by decide)).trans c130_14
    have c131_15 : T15[131]? = some (.slice (some ⟨w.heap.size, 0, none⟩) 1 1) := by rw [eT15]; exact (gs_other (by decide)).trans c131_14
    have c125_15 : T15[125]? = some (.slice (some ⟨W1.heap.size, 0, none⟩) 0 0) := by rw [eT15]; exact (gs_other (by decide)).trans c125_14
    have c129_15 : T15[129]? = some (v4) := by rw [eT15]; exact gs_same (by rw [sT14]; decide)
    have x15 : Keeps 125 9 T0 T15 := by rw [eT15]; exact x14.set (by decide)
    exact hend T15 v4 w.heap.size w4 sT15 x15 c129_15 c131_15 c135_15 ow4 (zr_block (hpG gr4 hx2 (fun e => hne (by injection e)))) b4

end Go.Proofs.Ytakpapgjdpnedaa.Clep
