/- What edit.without does when called (a walk over the translated program): for any files and any numbers, few of each. A map of counts. -/
import Derived.Test.YtgopcaemgcnapaaEOkW
import Derived.Maps.OwnSet
import Derived.Maps.OwnOps
import Derived.Maps.Views
import Derived.WalkSpells
namespace Go.Proofs.Ytgopcaemgcnapaa.Clep
open Go.RowKit Go.Maps
set_option linter.unusedVariables false
set_option maxRecDepth 10000

/-- Is the number there? -/
def hasN (l : List Fi) (z : Int) : Bool := l.any (fun f => f.N == z)
/-- No number twice. -/
def ndp : List Int → Bool
  | [] => true
  | z :: r => !(r.contains z) && ndp r
/-- The files without those that go. -/
def stay (l : List Fi) (d : List Int) : List Fi := l.filter (fun f => !(d.contains f.N))
/-- What without answers. -/
def wout (l : List Fi) (d : List Int) : Option (List Fi) := if (ndp d && d.all (hasN l)) = true then some (stay l d) else none
theorem ndp_snoc (d : List Int) (z : Int) : ndp (d ++ [z]) = (ndp d && !(d.contains z)) := by
  induction d with
  | nil => simp [ndp]
  | cons y r ih =>
    by_cases e : y = z
    · subst e
      cases hy : r.contains y <;> cases hz : ndp r <;> simp_all [ndp]
    · have e1 : (y == z) = false := by simpa using e
      have e2 : (z == y) = false := by simpa using fun h => e h.symm
      cases hy : r.contains y <;> cases hz : ndp r <;> cases hc : r.contains z <;> simp_all [ndp]
theorem ndp_take {d : List Int} (h : ndp d = true) (k : Nat) : ndp (d.take k) = true := by
  induction d generalizing k with
  | nil => simp [ndp]
  | cons y r ih =>
    cases k with
    | zero => rfl
    | succ k =>
      simp only [List.take_succ_cons, ndp, Bool.and_eq_true, Bool.not_eq_true'] at h ⊢
      refine ⟨?_, ih h.2 k⟩
      rw [← Bool.not_eq_true, List.contains_iff_mem] at h ⊢
      exact fun hm => h.1 (List.mem_of_mem_take hm)
theorem take_next {α : Type} {l : List α} {k : Nat} {x : α} (h : l[k]? = some x) : l.take (k + 1) = l.take k ++ [x] := by
  rw [List.take_add_one, h]; rfl
theorem wout_twice {l : List Fi} {d : List Int} {k : Nat} {z : Int} (hz : d[k]? = some z) (hc : (d.take k).contains z = true) : wout l d = none := by
  unfold wout
  rw [if_neg]
  intro h
  rw [Bool.and_eq_true] at h
  have := ndp_take h.1 (k + 1)
  rw [take_next hz, ndp_snoc, hc] at this
  simp at this
theorem wout_gone {l : List Fi} {d : List Int} {k : Nat} {z : Int} (hz : d[k]? = some z) (hc : hasN l z = false) : wout l d = none := by
  unfold wout
  rw [if_neg]
  intro h
  rw [Bool.and_eq_true] at h
  have := List.all_eq_true.1 h.2 z (List.mem_of_getElem? hz)
  rw [hc] at this
  cases this
/-- How often the number is there. -/
def cntN (l : List Fi) (z : Int) : Nat := l.countP (fun f => f.N == z)
theorem cntN_zero (l : List Fi) (z : Int) : cntN l z = 0 ↔ hasN l z = false := by
  unfold cntN hasN
  rw [List.countP_eq_zero, List.any_eq_false]
/-- Block B is a map of the numbers ks, each with its count. -/
def Mpc (w : World) (B n : Nat) (ks : List Int) (g : Int → Int) : Prop := ∃ D : DataW Unit, w.ownsMap Try.prog 3 (plainElem Try.prog 3) B n D ∧ (∀ s : Int, Maps.has D (.int .i64 s) = ks.contains s) ∧ ∀ s : Int, D.atKey (.int .i64 s) (.lit (.int .i64 0)) = .lit (.int .i64 (g s))
theorem Mpc.kept {w w' : World} {row : Option Nat} {B n : Nat} {ks : List Int} {g : Int → Int} (h : Mpc w B n ks g) (hg : w.grownBy w' row) (hne : some B ≠ row) : Mpc w' B n ks g := by
  obtain ⟨D, ho, hD⟩ := h
  exact ⟨D, ho.kept hg hne, hD⟩
theorem Mpc.keep {w w' : World} {B n : Nat} {ks : List Int} {g : Int → Int} (h : Mpc w B n ks g) (hb : Below w.heap.size w w') : Mpc w' B n ks g := h.kept (fgb_below hb none) (by simp)
theorem mpc_new (w : World) : Mpc (w.alloc (.map #[] 0)) w.heap.size 0 [] (fun _ => 0) := ⟨.map [], World.ownsMap_made _ _ _ _, fun s => rfl, fun s => rfl⟩
theorem lawI : Keyed Try.prog 3 := int_keyed Try.underlying3
theorem zeroIn (w : World) : (zeroValue 3).run Try.prog w = .ok (.int .i64 0) w := by kernel_rfl
theorem i64wf {s : Int} (h : -9223372036854775808 ≤ s ∧ s ≤ 9223372036854775807) : (Lit.int .i64 s).wf = true := by
  simp only [Lit.wf, IntKind.min, IntKind.max, IntKind.signed, IntKind.bits, Bool.and_eq_true, decide_eq_true_eq, if_true]
  omega
theorem mpc_put {w' : World} {B n : Nat} {ks : List Int} {g : Int → Int} {D : DataW Unit} {z c : Int} (hh : ∀ s : Int, Maps.has D (.int .i64 s) = ks.contains s) (hD : ∀ s : Int, D.atKey (.int .i64 s) (.lit (.int .i64 0)) = .lit (.int .i64 (g s))) (hm : IsMap D) (ho : w'.ownsMap Try.prog 3 (plainElem Try.prog 3) B n (D.put (.int .i64 z) (.lit (.int .i64 c)))) {ks' : List Int} (hks : ∀ s, ks'.contains s = (ks.contains s || (z == s))) :
    Mpc w' B n ks' (fun s => if s = z then c else g s) := by
  refine ⟨_, ho, fun s => ?_, fun s => ?_⟩
  · rw [hks]
    by_cases e : s = z
    · subst e
      rw [has_put_same hm (show WideAt.IsKeyLit (.int .i64 s) from trivial)]
      simp
    · rw [has_put_other (fun h => e (by injection h)), hh s, show (z == s) = false from by simpa using fun h => e h.symm, Bool.or_false]
  · show _ = DataW.lit (.int .i64 (if s = z then c else g s))
    by_cases e : s = z
    · subst e
      rw [if_pos rfl]
      exact atKey_put_same hm (show WideAt.IsKeyLit (.int .i64 s) from trivial) _ _
    · rw [if_neg e, atKey_put_other (fun h => e (by injection h))]
      exact hD s
theorem makemap_hint (n : Int) (w : World) : (Instr.makeMap 103 (some (.int .i64 n))).run Try.prog w = .ok (.map (some w.heap.size)) (w.alloc (.map #[] 0)) := by
  simp [Instr.makeMap, go_sem]
theorem wpList_look_mpc {w : World} {ops : Array Oper} {rest : List Oper} {o : Oper} {a : Act} {Q : Exit → Act → World → Prop} (hgd : o.guard = none) (m x : Operand) (ho : o.op = .lookup 103 m x true) (B n : Nat) (ks : List Int) (g : Int → Int) (hm : a.eval m = .map (some B)) (h : Mpc w B n ks g) (z : Int) (hx : a.eval x = .int .i64 z) (hz : -9223372036854775808 ≤ z ∧ z ≤ 9223372036854775807) (b : Bool) (c : Int) (hb : ks.contains z = b) (hc : g z = c)
    (hK : wpList Try.prog ops Q rest (a.put o.dst (.tuple #[.int .i64 c, .bool b])) w) : wpList Try.prog ops Q (o :: rest) a w := by
  obtain ⟨D, hown, hh, hD⟩ := h
  refine wpList_lookup_own_ok_int w hgd m x _ ho 3 3 .i64 lawI Try.underlying103 Try.underlying3 (zeroIn _) B n D hm hown _ (.int .i64 z) hx (keyOf_int_mk Try.underlying3 (i64wf hz)) ?_
  intro c' hat hwc
  rw [hD z, hc] at hat
  injection hat with hat
  injection hat with _ hat
  subst hat
  rw [hh z, hb]
  exact hK
theorem wpList_at_mpc {w : World} {ops : Array Oper} {rest : List Oper} {o : Oper} {a : Act} {Q : Exit → Act → World → Prop} (hgd : o.guard = none) (m x : Operand) (ho : o.op = .lookup 103 m x false) (B n : Nat) (ks : List Int) (g : Int → Int) (hm : a.eval m = .map (some B)) (h : Mpc w B n ks g) (z : Int) (hx : a.eval x = .int .i64 z) (hz : -9223372036854775808 ≤ z ∧ z ≤ 9223372036854775807) (c : Int) (hc : g z = c)
    (hK : wpList Try.prog ops Q rest (a.put o.dst (.int .i64 c)) w) : wpList Try.prog ops Q (o :: rest) a w := by
  obtain ⟨D, hown, hh, hD⟩ := h
  refine wpList_lookup_own_int w hgd m x _ ho 3 3 .i64 lawI Try.underlying103 Try.underlying3 (zeroIn _) B n D hm hown _ (.int .i64 z) hx (keyOf_int_mk Try.underlying3 (i64wf hz)) ?_
  intro c' hat hwc
  rw [hD z, hc] at hat
  injection hat with hat
  injection hat with _ hat
  subst hat
  exact hK
theorem wpList_put_mpc {w : World} {ops : Array Oper} {rest : List Oper} {o : Oper} {a : Act} {Q : Exit → Act → World → Prop} (hgd : o.guard = none) (m x v : Operand) (ho : o.op = .mapUpdate 103 m x v) (B n : Nat) (ks : List Int) (g : Int → Int) (hm : a.eval m = .map (some B)) (h : Mpc w B n ks g) (hn : n ≤ 1000000) (z : Int) (hx : a.eval x = .int .i64 z) (hz : -9223372036854775808 ≤ z ∧ z ≤ 9223372036854775807) (c : Int) (hv : a.eval v = .int .i64 c) (hc : -9223372036854775808 ≤ c ∧ c ≤ 9223372036854775807)
    (ks' : List Int) (hks : ∀ s, ks'.contains s = (ks.contains s || (z == s))) (hK : ∀ w', Mpc w' B (n + 1) ks' (fun s => if s = z then c else g s) → w.grownBy w' (some B) → wpList Try.prog ops Q rest (a.put o.dst undef) w') : wpList Try.prog ops Q (o :: rest) a w := by
  obtain ⟨D, hown, hh, hD⟩ := h
  refine wpList_mapUpdate_own w hgd m x v _ ho 3 3 lawI Try.underlying103 (plainElem Try.prog 3) B n D hm hown (by unfold maxLen; omega) _ _ (.int .i64 z) hx hv (keyOf_int_mk Try.underlying3 (i64wf hz)) _ [] (plainElem_int Try.underlying3 (i64wf hc)) ?_
  intro w' ho' hg'
  exact hK w' (mpc_put hh hD hown.isMap ho' hks) hg'
theorem Mpc.more {w : World} {B n n' : Nat} {ks : List Int} {g g' : Int → Int} (h : Mpc w B n ks g) (hn : n ≤ n') (hg : ∀ s, g s = g' s) : Mpc w B n' ks g' := by
  obtain ⟨D, h1, h2, h3⟩ := h
  exact ⟨D, h1.mono hn, h2, fun s => by rw [h3 s, hg s]⟩
/-- What without returns. -/
def WoR (r : Option (List Fi)) (w : World) (e : Ending) (w' : World) : Prop := (match r with
  | none => e = .returned (.tuple #[.slice none 0 0, .bool false])
  | some m => ∃ v, e = .returned (.tuple #[v, .bool true]) ∧ OwnF w' w.heap.size v m) ∧ Below w.heap.size w w'
theorem snoc_contains (ks : List Int) (z s : Int) : (ks ++ [z]).contains s = (ks.contains s || (z == s)) := by
  by_cases e : z = s
  · subst e; simp
  · have e1 : (z == s) = false := by simpa using e
    have e2 : (s == z) = false := by simpa using fun h => e h.symm
    rw [List.contains_append, e1]
    simp
    exact fun h => absurd h.symm e
theorem stay_in {l : List Fi} {d : List Int} {k : Nat} {f : Fi} (hf : l[k]? = some f) (hc : d.contains f.N = true) : stay (l.take (k + 1)) d = stay (l.take k) d := by
  unfold stay
  rw [take_next hf, List.filter_append]
  simp
  simpa using hc
theorem stay_out {l : List Fi} {d : List Int} {k : Nat} {f : Fi} (hf : l[k]? = some f) (hc : d.contains f.N = false) : stay (l.take (k + 1)) d = stay (l.take k) d ++ [f] := by
  unfold stay
  rw [take_next hf, List.filter_append]
  simp
  simpa using hc
theorem cntN_next {l : List Fi} {k : Nat} {f : Fi} (hf : l[k]? = some f) (s : Int) : cntN (l.take (k + 1)) s = cntN (l.take k) s + (if f.N = s then 1 else 0) := by
  unfold cntN
  rw [take_next hf, List.countP_append]
  by_cases e : f.N = s <;> simp [e]
theorem cntN_le (l : List Fi) (s : Int) : cntN l s ≤ l.length := List.countP_le_length
def gW (l : List Fi) (d : List Int) (k : Nat) (s : Int) : Int := if d.contains s = true then (cntN (l.take k) s : Int) else 0

end Go.Proofs.Ytgopcaemgcnapaa.Clep
