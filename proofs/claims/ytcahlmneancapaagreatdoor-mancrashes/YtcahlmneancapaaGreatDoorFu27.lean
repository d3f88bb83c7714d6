/- Rows of Views and of Edits that a statement makes. No conditions. Written by wip/tools/gen16eds.py. -/
import Derived.Test.YtcahlmneancapaaGreatDoorFu22
import Derived.Test.YtcahlmneancapaaGreatDoorFu26
import Derived.Test.YtcahlmneancapaaGreatDoorFu12
import Derived.Test.YtcahlmneancapaaGreatDoorFu17
import Derived.Test.YtcahlmneancapaaGreatDoorFu25
import Derived.Maps.AppendAt
import Derived.Test.YtcahlmneancapaaGreatDoorFu00
namespace Go.Proofs.YtcahlmneancapaaGreatDoor.Clep
open Go.RowKit
set_option linter.unusedVariables false
set_option maxRecDepth 10000

/-- A View by value: which, and where its files are. -/
structure Vr where
  V : Vw
  a : Option Addr
  c : Nat
def Vr.cs (x : Vr) : List Value := [.int .i64 x.V.lg, .slice x.a x.V.f.length x.c, .int .u64 x.V.fl, .int .u64 x.V.ct, .int .u64 x.V.at9, .int .u64 x.V.ls]
def vcs (l : List Vr) : List Value := l.flatMap Vr.cs
theorem vcs_len (l : List Vr) : (vcs l).length = l.length * 6 := by
  induction l with
  | nil => rfl
  | cons x r ih => simp [vcs, Vr.cs] at ih ⊢; omega
theorem vcs_get (l : List Vr) : ∀ (i j : Nat) (x : Vr), l[i]? = some x → j < 6 → (vcs l)[i * 6 + j]? = x.cs[j]? := by
  induction l with
  | nil => intro i j x h; simp at h
  | cons y r ih =>
    intro i j x h hj
    have e : vcs (y :: r) = y.cs ++ vcs r := by simp [vcs]
    rw [e]
    cases i with
    | zero =>
      simp at h; subst h
      rw [Nat.zero_mul, Nat.zero_add, List.getElem?_append_left (by simp [Vr.cs]; omega)]
    | succ i =>
      simp at h
      rw [List.getElem?_append_right (by simp [Vr.cs]; omega), show (i + 1) * 6 + j - y.cs.length = i * 6 + j from by simp [Vr.cs]; omega]
      exact ih i j x h hj
/-- The slice value v owns the Views l. -/
def OwnV (w : World) (B : Nat) (v : Value) (l : List Vr) : Prop := w.ownsRow B 31 6 v l.length (vcs l)
theorem infoVw : (Tryz.prog.info? 31).map (fun i => (i.zero, i.size, i.bytes)) = some (some (.agg #[.int .i64 0, .slice none 0 0, .int .u64 0, .int .u64 0, .int .u64 0, .int .u64 0]), 6, 64) := by kernel_rfl
/-- One View more behind a row of Views; where the row then is. -/
theorem wpList_append_v {w : World} {ops : Array Oper} {rest : List Oper} {o : Oper} {a : Act} {Q : Exit → Act → World → Prop} (hgd : o.guard = none) (s x : Operand)
    (ho : o.op = .call { callee := .builtin .append, args := #[s, x], argTypes := #[62, 62] })
    (base : Nat) (v : Value) (l : List Vr) (hs : a.eval s = v) (hown : OwnV w base v l) (p : Nat) (z : Vr) (hx : a.eval x = .slice (some ⟨p, 0, none⟩) 1 1) (hp : Ek w p z.cs.toArray 31)
    (hlen : l.length ≤ 100000) (hbase : base ≤ w.heap.size)
    (h : ∀ v' w', OwnV w' base v' (l ++ [z]) → w.grownBy w' v.ownBlock → (∀ k, v.ownBlock = some k → base ≤ k) → (v'.ownBlock = v.ownBlock ∨ v'.ownBlock = some w.heap.size) → wpList Tryz.prog ops Q rest (a.put o.dst v') w') : wpList Tryz.prog ops Q (o :: rest) a w := by
  obtain ⟨i0, hi, hz0, hz1, hz2⟩ := info_parts infoVw
  refine wpList_append_own_at _ hgd s x 62 ho base 31 i0 _ 6 64 Tryz.underlying62 hi hz0 hz1 hz2 rfl (by decide) v l.length (vcs l) hs hown ⟨p, 0, none⟩ 1 1 z.cs hx rfl ?_ ?_ (by unfold maxLen; omega) (by omega) hbase ?_
  · intro j u hu
    rw [add_plain, Nat.zero_add]
    exact hp.cell (by simpa using hu)
  · intro u hu
    simp only [Vr.cs, List.mem_cons, List.not_mem_nil, or_false] at hu
    rcases hu with rfl | rfl | rfl | rfl | rfl | rfl <;> rfl
  · intro v' w' h1 h2 _ h3
    refine h v' w' ?_ h2 (fun k hk => (World.ownsRow.lt hown k hk).1) h3
    unfold OwnV
    rw [List.length_append, show vcs (l ++ [z]) = vcs l ++ z.cs from by simp [vcs]]
    exact h1
def ecs (l : List Er) : List Value := l.flatMap Er.cs
theorem ecs_len (l : List Er) : (ecs l).length = l.length * 7 := by
  induction l with
  | nil => rfl
  | cons x r ih => simp [ecs, Er.cs] at ih ⊢; omega
/-- The slice value v owns the Edits l. -/
def OwnE (w : World) (B : Nat) (v : Value) (l : List Er) : Prop := w.ownsRow B 34 7 v l.length (ecs l)
theorem infoEd : (Tryz.prog.info? 34).map (fun i => (i.zero, i.size, i.bytes)) = some (some (.agg #[.slice none 0 0, .slice none 0 0, .int .i64 0, .int .u64 0, .int .u64 0, .int .u64 0, .int .u64 0]), 7, 88) := by kernel_rfl
/-- One Edit more behind a row of Edits; where the row then is. -/
theorem wpList_append_e {w : World} {ops : Array Oper} {rest : List Oper} {o : Oper} {a : Act} {Q : Exit → Act → World → Prop} (hgd : o.guard = none) (s x : Operand)
    (ho : o.op = .call { callee := .builtin .append, args := #[s, x], argTypes := #[54, 54] })
    (base : Nat) (v : Value) (l : List Er) (hs : a.eval s = v) (hown : OwnE w base v l) (p : Nat) (z : Er) (hx : a.eval x = .slice (some ⟨p, 0, none⟩) 1 1) (hp : Ek w p z.cs.toArray 34)
    (hlen : l.length ≤ 100000) (hbase : base ≤ w.heap.size)
    (h : ∀ v' w', OwnE w' base v' (l ++ [z]) → w.grownBy w' v.ownBlock → (∀ k, v.ownBlock = some k → base ≤ k) → (v'.ownBlock = v.ownBlock ∨ v'.ownBlock = some w.heap.size) → wpList Tryz.prog ops Q rest (a.put o.dst v') w') : wpList Tryz.prog ops Q (o :: rest) a w := by
  obtain ⟨i0, hi, hz0, hz1, hz2⟩ := info_parts infoEd
  refine wpList_append_own_at _ hgd s x 54 ho base 34 i0 _ 7 88 Tryz.underlying54 hi hz0 hz1 hz2 rfl (by decide) v l.length (ecs l) hs hown ⟨p, 0, none⟩ 1 1 z.cs hx rfl ?_ ?_ (by unfold maxLen; omega) (by omega) hbase ?_
  · intro j u hu
    rw [add_plain, Nat.zero_add]
    exact hp.cell (by simpa using hu)
  · intro u hu
    simp only [Er.cs, List.mem_cons, List.not_mem_nil, or_false] at hu
    rcases hu with rfl | rfl | rfl | rfl | rfl | rfl | rfl <;> rfl
  · intro v' w' h1 h2 _ h3
    refine h v' w' ?_ h2 (fun k hk => (World.ownsRow.lt hown k hk).1) h3
    unfold OwnE
    rw [List.length_append, show ecs (l ++ [z]) = ecs l ++ z.cs from by simp [ecs]]
    exact h1
theorem own_one {w : World} {B p size : Nat} {e : TypeId} {cs : Array Value} (h : w.heap[p]? = some (.cells cs e (0, 0))) (hB : B ≤ p) (hs : cs.size = size) : w.ownsRow B e size (.slice (some ⟨p, 0, none⟩) 1 1) 1 cs.toList :=
  ⟨by rw [Array.length_toList]; omega, .inr ⟨p, 1, cs, rfl, hB, h, Nat.le_refl _, by decide, by omega, by rw [List.take_of_length_le]; rw [Array.length_toList]; omega⟩⟩
theorem xrow_keep {w w' : World} {B size n : Nat} {e : TypeId} {v : Value} {xs : List Value} (h : w.ownsRow B e size v n xs) (hb : Below w.heap.size w w') : w'.ownsRow B e size v n xs :=
  World.ownsRow.kept h (fgb_below hb none) (by cases v.ownBlock <;> simp)
/-- What a statement holds between its steps: the View, the row of Views, another row. -/
structure Cg (w W : World) (v6 v7 : Value) (x : Vr) (vs : List Vr) (e7 : TypeId) (z7 n7 : Nat) (xs7 : List Value) : Prop where
  z : Ek W w.heap.size x.cs.toArray 31
  o6 : OwnV W (w.heap.size + 1) v6 vs
  o7 : W.ownsRow (w.heap.size + 1) e7 z7 v7 n7 xs7
  ne : v6.ownBlock = none ∨ v6.ownBlock ≠ v7.ownBlock
  fs : ∀ y, y = x ∨ y ∈ vs → Fs W y.a y.V.f.length y.c y.V.f ∧ y.c ≤ 9223372036854775807
  far : ∀ y, y = x ∨ y ∈ vs → ∀ p, y.a = some p → w.heap.size + 1 ≤ p.block ∧ p.block < W.heap.size ∧ v6.ownBlock ≠ some p.block ∧ v7.ownBlock ≠ some p.block
  bel : Below w.heap.size w W
  sz : w.heap.size + 1 ≤ W.heap.size
section
variable {w W W' : World} {v6 v7 v' : Value} {x x' : Vr} {vs : List Vr} {e7 : TypeId} {z7 n7 m7 : Nat} {xs7 ys7 : List Value}
theorem Cg.keep (h : Cg w W v6 v7 x vs e7 z7 n7 xs7) (hb : Below W.heap.size W W') : Cg w W' v6 v7 x vs e7 z7 n7 xs7 :=
  ⟨h.z.below hb h.z.lt, xrow_keep h.o6 hb, xrow_keep h.o7 hb, h.ne, fun y hy => ⟨(h.fs y hy).1.below hb (Nat.le_refl _), (h.fs y hy).2⟩, fun y hy p hp => by have h1 := h.far y hy p hp; have := hb.size; exact ⟨h1.1, by omega, h1.2.2⟩, h.bel.trans (hb.mono h.bel.size), Nat.le_trans h.sz hb.size⟩
/-- Another View in the variable. -/
theorem Cg.cur (h : Cg w W v6 v7 x vs e7 z7 n7 xs7) (hf : Fs W x'.a x'.V.f.length x'.c x'.V.f ∧ x'.c ≤ 9223372036854775807) (hp : ∀ p, x'.a = some p → w.heap.size + 1 ≤ p.block ∧ p.block < W.heap.size ∧ v6.ownBlock ≠ some p.block ∧ v7.ownBlock ≠ some p.block) :
    Cg w (set6 W w.heap.size (.int .i64 x'.V.lg) (.slice x'.a x'.V.f.length x'.c) (.int .u64 x'.V.fl) (.int .u64 x'.V.ct) (.int .u64 x'.V.at9) (.int .u64 x'.V.ls)) v6 v7 x' vs e7 z7 n7 xs7 := by
  have hg := gset6 W w.heap.size (.int .i64 x'.V.lg) (.slice x'.a x'.V.f.length x'.c) (.int .u64 x'.V.fl) (.int .u64 x'.V.ct) (.int .u64 x'.V.at9) (.int .u64 x'.V.ls)
  have hz := zset h.z h.bel (Nat.le_refl _) (.int .i64 x'.V.lg) (.slice x'.a x'.V.f.length x'.c) (.int .u64 x'.V.fl) (.int .u64 x'.V.ct) (.int .u64 x'.V.at9) (.int .u64 x'.V.ls)
  have hn : ∀ {v : Value} {B n size : Nat} {e : TypeId} {xs : List Value}, W.ownsRow B e size v n xs → w.heap.size + 1 ≤ B → v.ownBlock = none ∨ v.ownBlock ≠ some w.heap.size := fun {v B n size e xs} ho hB => by
    cases hv : v.ownBlock with
    | none => exact .inl rfl
    | some k =>
      right
      intro e2
      have h1 := (World.ownsRow.lt ho k hv).1
      have h2 := Option.some.inj e2
      omega
  have hall : ∀ y, y = x' ∨ y ∈ vs → (Fs W y.a y.V.f.length y.c y.V.f ∧ y.c ≤ 9223372036854775807) ∧ ∀ p, y.a = some p → w.heap.size + 1 ≤ p.block ∧ p.block < W.heap.size ∧ v6.ownBlock ≠ some p.block ∧ v7.ownBlock ≠ some p.block := fun y hy => by
    rcases hy with rfl | hy
    · exact ⟨hf, hp⟩
    · exact ⟨h.fs y (.inr hy), h.far y (.inr hy)⟩
  refine ⟨hz.1, World.ownsRow.kept h.o6 hg (hn h.o6 (Nat.le_refl _)), World.ownsRow.kept h.o7 hg (hn h.o7 (Nat.le_refl _)), h.ne, fun y hy => ⟨(hall y hy).1.1.gb hg (fun p e e2 => ?_), (hall y hy).1.2⟩, fun y hy p e => ?_, hz.2, Nat.le_trans h.sz hg.size⟩
  · have h1 := (hall y hy).2 p e
    have h2 := Option.some.inj e2
    omega
  · have h1 := (hall y hy).2 p e
    have := hg.size
    exact ⟨h1.1, Nat.lt_of_lt_of_le h1.2.1 this, h1.2.2⟩
/-- The View behind the row of Views. -/
theorem Cg.push6 (h : Cg w W v6 v7 x vs e7 z7 n7 xs7) (ho : OwnV W' (w.heap.size + 1) v' (vs ++ [x])) (hg : W.grownBy W' v6.ownBlock) (hl : v'.ownBlock = v6.ownBlock ∨ v'.ownBlock = some W.heap.size) : Cg w W' v' v7 x (vs ++ [x]) e7 z7 n7 xs7 := by
  have hk : ∀ k, v6.ownBlock = some k → w.heap.size + 1 ≤ k := fun k hk => (World.ownsRow.lt h.o6 k hk).1
  have h7 : ∀ k, v7.ownBlock = some k → k < W.heap.size := fun k hk => (World.ownsRow.lt h.o7 k hk).2
  have hall : ∀ y, y = x ∨ y ∈ vs ++ [x] → y = x ∨ y ∈ vs := fun y hy => by
    rcases hy with e | e
    · exact .inl e
    · rcases List.mem_append.1 e with e | e
      · exact .inr e
      · exact .inl (List.mem_singleton.1 e)
  refine ⟨h.z.gb hg (fun e => ?_), ho, World.ownsRow.kept h.o7 hg ?_, ?_, fun y hy => ⟨(h.fs y (hall y hy)).1.gb hg (fun p e e2 => (h.far y (hall y hy) p e).2.2.1 e2.symm), (h.fs y (hall y hy)).2⟩, fun y hy p e => ?_, h.bel.grown hg h.bel.size (fun k e => ?_), Nat.le_trans h.sz hg.size⟩
  · have := hk _ e.symm; omega
  · rcases h.ne with e | e
    · rw [e]; cases v7.ownBlock <;> simp
    · exact .inr (fun e2 => e e2.symm)
  · rcases hl with e | e
    · rw [e]; exact h.ne
    · right
      rw [e]
      intro e2
      have := h7 _ e2.symm
      omega
  · have h1 := h.far y (hall y hy) p e
    have := hg.size
    refine ⟨h1.1, by omega, ?_, h1.2.2.2⟩
    rcases hl with e | e
    · rw [e]; exact h1.2.2.1
    · rw [e]; intro e2; have := Option.some.inj e2; omega
  · have := hk k e; omega
theorem Cg.push7 (h : Cg w W v6 v7 x vs e7 z7 n7 xs7) (ho : W'.ownsRow (w.heap.size + 1) e7 z7 v' m7 ys7) (hg : W.grownBy W' v7.ownBlock) (hl : v'.ownBlock = v7.ownBlock ∨ v'.ownBlock = some W.heap.size) : Cg w W' v6 v' x vs e7 z7 m7 ys7 := by
  have hk : ∀ k, v7.ownBlock = some k → w.heap.size + 1 ≤ k := fun k hk => (World.ownsRow.lt h.o7 k hk).1
  have h6 : ∀ k, v6.ownBlock = some k → k < W.heap.size := fun k hk => (World.ownsRow.lt h.o6 k hk).2
  refine ⟨h.z.gb hg (fun e => ?_), World.ownsRow.kept h.o6 hg h.ne, ho, ?_, fun y hy => ⟨(h.fs y hy).1.gb hg (fun p e e2 => (h.far y hy p e).2.2.2 e2.symm), (h.fs y hy).2⟩, fun y hy p e => ?_, h.bel.grown hg h.bel.size (fun k e => ?_), Nat.le_trans h.sz hg.size⟩
  · have := hk _ e.symm; omega
  · rcases h.ne with e | e
    · exact .inl e
    · rcases hl with e2 | e2
      · rw [e2]; exact .inr e
      · rw [e2]
        right
        intro e3
        have := h6 _ e3
        omega
  · have h1 := h.far y hy p e
    have := hg.size
    refine ⟨h1.1, by omega, h1.2.2.1, ?_⟩
    rcases hl with e | e
    · rw [e]; exact h1.2.2.2
    · rw [e]; intro e2; have := Option.some.inj e2; omega
  · have := hk k e; omega
/-- A new block is no row's. -/
theorem Cg.new (h : Cg w W v6 v7 x vs e7 z7 n7 xs7) {p : Nat} (hp : W.heap.size ≤ p) : v6.ownBlock ≠ some p ∧ v7.ownBlock ≠ some p := ⟨fun e => by have := (World.ownsRow.lt h.o6 p e).2; omega, fun e => by have := (World.ownsRow.lt h.o7 p e).2; omega⟩
end
/-- What a row of Views is like. -/
theorem ownV_form {w : World} {B : Nat} {v : Value} {l : List Vr} (h : OwnV w B v l) (h0 : 0 < l.length) : ∃ g c, v = .slice (some ⟨g, 0, none⟩) l.length c ∧ c ≤ 9223372036854775807 ∧ ∀ (i : Nat) (y : Vr) (j : Nat) (u : Value), l[i]? = some y → y.cs[j]? = some u → w.cell? ⟨g, i * 6 + j, none⟩ = some u := by
  have h1 := h
  obtain ⟨hl, ⟨rfl, hn⟩ | ⟨g, cap, cur, rfl, hg, hh, hnc, hcm, hcs, hx⟩⟩ := h1
  · omega
  · refine ⟨g, cap, rfl, by unfold maxLen at hcm; omega, fun i y j u hi hj => ?_⟩
    have hj6 : j < 6 := by have := (List.getElem?_eq_some_iff.1 hj).1; simpa [Vr.cs] using this
    have hc := World.ownsRow.cells (w := w) (base := B) (e := 31) (size := 6) (v := .slice (some ⟨g, 0, none⟩) l.length cap) (n := l.length) (xs := vcs l) h (g := g) rfl (i * 6 + j) u (by rw [vcs_get l i j y hi hj6]; exact hj)
    rwa [add_plain, Nat.zero_add] at hc
def oneV : Vw := ⟨1, [], 0, 0, 0, 0⟩
/-- The Edits so far, and the Views that they made of the first one. -/
structure Cq (gs : List Er) (vs : List Vr) (x : Vr) : Prop where
  len : vs.length = gs.length + 1
  at' : ∀ k y, vs[k]? = some y → apE oneV ((gs.map Er.E).take k) = some y.V
  last : apE oneV (gs.map Er.E) = some x.V
  eg : ∀ y ∈ gs, Eg y.E
theorem apE_snocV {l : List Ed} {V0 V U : Vw} {E : Ed} (h : apE V0 l = some V) (h2 : appl V E = some U) : apE V0 (l ++ [E]) = some U := by
  rw [apE_app, h]
  show apE V [E] = some U
  rw [apE_cons, h2]
  rfl
theorem Cq.snoc {gs : List Er} {vs : List Vr} {x x' : Vr} {y : Er} (h : Cq gs vs x) (ha : appl x.V y.E = some x'.V) (he : Eg y.E) : Cq (gs ++ [y]) (vs ++ [x']) x' := by
  refine ⟨by rw [List.length_append, List.length_append, h.len]; rfl, fun k u hk => ?_, by rw [List.map_append]; exact apE_snocV h.last ha, fun F hF => ?_⟩
  · rw [List.map_append]
    have hl := h.len
    rcases Nat.lt_or_ge k vs.length with hlt | hge
    · rw [List.getElem?_append_left hlt] at hk
      rw [List.take_append_of_le_length (by rw [List.length_map]; omega)]
      exact h.at' k u hk
    · rw [List.getElem?_append_right hge] at hk
      have hk0 : k - vs.length = 0 := by
        rcases Nat.eq_zero_or_pos (k - vs.length) with e | e
        · exact e
        · rw [List.getElem?_eq_none (by simp; omega)] at hk; cases hk
      rw [hk0] at hk
      simp at hk
      rw [← hk, List.take_of_length_le (by rw [List.length_append, List.length_map]; simp; omega)]
      exact apE_snocV h.last ha
  · rcases List.mem_append.1 hF with e | e
    · exact h.eg F e
    · rw [List.mem_singleton.1 e]; exact he
theorem vok_one : vok oneV = true := by decide
theorem apE_vok : ∀ (l : List Ed) (V U : Vw), apE V l = some U → vok V = true → vok U = true
  | [], V, U, h, hv => by rw [← Option.some.inj h]; exact hv
  | E :: l, V, U, h, hv => by
    rw [apE_cons] at h
    split at h
    · cases h
    · rename_i W hW
      unfold appl at hW
      split at hW
      · cases hW
      · split at hW
        · rename_i hok
          injection hW with hW
          exact apE_vok l W U h (by rw [← hW]; exact hok)
        · cases hW
/-- What edits tells. -/
def EdA (ls : List Er) (w : World) (e : Ending) (w' : World) : Prop := Below w.heap.size w w' ∧ (e = .returned (.tuple #[.slice none 0 0, .slice none 0 0, .bool false]) ∨ ∃ v6 v7 x vs gs, e = .returned (.tuple #[v7, v6, .bool true]) ∧
  Cg w w' v6 v7 x vs 34 7 gs.length (ecs gs) ∧ Cq gs vs x ∧ (∀ y ∈ gs, y ∈ ls) ∧ gs.length ≤ 45)

end Go.Proofs.YtcahlmneancapaaGreatDoor.Clep

/- The fixed example of stage 16's statements: it answers true (a walk over the translated program). No conditions. -/
namespace Go.Proofs.YtcahlmneancapaaGreatDoor.Clep
open Go.RowKit Go.Maps Go.Sort
set_option linter.unusedVariables false
set_option maxRecDepth 10000

theorem one_nn : Vnn oneV := ⟨Int.le_refl 0, Int.le_refl 0, Int.le_refl 0, Int.le_refl 0⟩
theorem one_len : (whB oneV).length ≤ 1312 := (whB_facts (whole_may vok_one one_nn)).2
theorem newOk_one (q : Nat) (h : 1400 ≤ q) : ∃ S', NewOk leB q (whB oneV) S' := new_ok leB q (whB oneV) (by have := one_len; have := leB_len 1; omega) (by have := one_len; have := leB_len 1; omega)
/-- An Edit of a Floor alone. -/
def flE (x : Int) : Ed := ⟨[], [], 0, x, 0, 0, 0⟩
def flV (x : Int) : Vw := ⟨1, [], x, 0, 0, 0⟩
theorem flE_good {x : Int} (h0 : 0 ≤ x) (h1 : x ≤ 281474976710656) : Eg (flE x) := by
  refine ⟨?_, h0, Int.le_refl 0, Int.le_refl 0, Int.le_refl 0⟩
  unfold emay flE edH
  rw [if_pos]
  simp
  omega
theorem flE_appl {x y : Int} (h0 : 1 ≤ x) (h1 : x ≤ 281474976710656) : appl (flV y) (flE x) = some (flV x) := by
  have hp : put0 y x = x := by unfold put0; rw [if_neg (by omega)]
  have hv : vok (flV x) = true := by
    unfold vok vwH flV
    simp [once]
    omega
  have e : after (flV y) (flE x) (flV y).f = flV x := by
    unfold after flV flE
    simp only [hp]
    rfl
  unfold appl
  show (if vok (after (flV y) (flE x) (flV y).f) = true then some (after (flV y) (flE x) (flV y).f) else none) = some (flV x)
  rw [e, if_pos hv]
def s12 : ByteArray := ⟨#[116, 97, 98, 46, 49, 50]⟩
theorem n12 : kTab ++ kPt ++ ⟨(Lib.decDigits 12).toArray⟩ = s12 := by
  rw [digits_two (by decide) (by decide)]
  decide
theorem n3 : kLog ++ kPt ++ ⟨(Lib.decDigits 3).toArray⟩ = ⟨#[108, 111, 103, 46, 51]⟩ := by
  rw [digits_one (by decide)]
  decide
set_option maxHeartbeats 4000000 in
theorem mawake_any (w : World) : Calls Tryz.prog 17 #[] w fun e w' => e = .returned (.bool true) ∧ Below w.heap.size w w' := by
  obtain ⟨S1, N1⟩ := newOk_one 10000 (by decide)
  have P1 := mp_new N1 vok_one one_nn
  have hE := flE_good (x := 7) (by decide) (by decide)
  have hA : appl oneV (flE 7) = some (flV 7) := flE_appl (y := 0) (by decide) (by decide)
  have h1 := one_len
  have h2 := leB_len 1
  have ht := N1.tot
  obtain ⟨E1, ph, S2, e2⟩ : ∃ E1 ph S2, saveS S1 (mnm 1) (fr 6 (ebd (flE 7))) = (E1, ph, S2) := ⟨_, _, _, rfl⟩
  obtain ⟨m2, c2, t2, q2, nm2, r2⟩ := mp_save P1 hE hA (by omega) (by rw [N1.q]; omega) e2
  obtain ⟨z2, k2⟩ := m2.calm N1.calm
  subst z2
  rcases r2 with ⟨-, r, -⟩ | ⟨-, r, -⟩ | ⟨rfl, -, P2⟩
  · exact absurd rfl r
  · exact absurd rfl r
  obtain ⟨rp, sp⟩ := rpE_el P2.eg P2.ap P2.pos
  have hcl := N1.calls
  have hsm2 : tot S2 ≤ 10000 - 1334 ∧ S2.q = 10000 := ⟨by omega, q2.trans N1.q⟩
  have hq1 := N1.q
  have ND := hide (bd_new 10000 w (by decide) 10000 rfl)
  have HE := hide hE
  have HA := hide hA
  have HN1 := hide N1
  have HP1 := hide P1
  have HP2 := hide P2
  have HK2 := hide k2
  have HE2 := hide e2
  have HRP := hide rp
  have HSP := hide sp
  clear N1 P1 hE hA m2 k2 P2 e2 rp sp nm2 q2
  go_enter Tryz.func17, Tryz.ntmps17
  go_wp2_with fail
  refine ND.out.mono ?_
  rintro e w1 ⟨R, rfl, D1⟩
  have NM := hide (bm_new none 0 0 oneV D1 (fs_nil w1) (by decide) vok_one one_nn HN1.out)
  unfold vwV oneV at NM
  clear ND D1
  go_wp2_with fail
  refine NM.out.mono ?_
  rintro e w2 ⟨M, rfl, B2⟩
  have SV := hide (bm_save B2 none none 0 0 0 0 (flE 7) (zs_nil w2) (fs_nil w2) (by decide) (by decide) HE.out.2 vok_one (by decide) (by decide) (by decide) (by omega))
  unfold edV flE at SV
  clear NM B2
  go_wp2_with fail
  refine SV.out.mono ?_
  rintro e w3 ⟨-, q3⟩
  obtain ⟨E1, ph, S3, r1, rfl, B3⟩ := q3 (flV 7) HE.out.1 HA.out
  have r1' := HE2.out
  unfold flE at r1'
  rw [r1'] at r1
  injection r1 with a1 a2
  injection a2 with a2 a3
  subst a1 a2 a3
  have HB3 := hide B3
  have OP := hide (bd_open_go B3.bd HP2.out.dk HP2.out.top HK2.out.2.2 HP2.out.solo HRP.out HP2.out.nn (by decide) (by omega) (by omega) (by omega))
  clear SV q3 r1' B3
  go_wp2_with fail
  refine OP.out.mono ?_
  rintro e w4 ⟨q4, -⟩
  obtain ⟨M', rfl, B4, hb4⟩ := q4 (by first | exact ⟨rfl, by rw [HSP.out]; decide⟩ | exact ⟨trivial, by rw [HSP.out]; decide⟩)
  have HB4 := hide B4
  have HB34 := hide (HB3.out.below hb4)
  have NU := hide (number_of s12 kTab (by decide) 12 (by decide) (by decide) n12 (by decide) (by decide) (by decide) w4)
  unfold s12 kTab at NU
  clear OP q4 B4 hb4 HB3
  go_wp2_with fail
  refine NU.out.mono ?_
  rintro e w5 ⟨rfl, hb5⟩
  have HB5 := hide (HB4.out.below hb5)
  have HB35 := hide (HB34.out.below hb5)
  have VW := hide (bm_view HB5.out (by decide))
  clear NU hb5 HB4 HB34
  unfold vwV flV at VW
  simp only [List.length_nil] at VW
  go_wp2_with fail
  refine VW.out.mono ?_
  rintro e w6 ⟨a, c', rfl, -, -, B6, hb6⟩
  have NM := hide (bm_name (HB35.out.below hb6) (by decide) (by decide))
  have HB6 := hide B6.bel
  rw [show mnm 1 = ⟨#[109, 97, 110, 46, 49]⟩ by decide] at NM
  have hfl := fun W => field_F W 1 7 0 0 0 a 0 c'
  clear VW B6 hb6 HB35 HB5
  go_wp2_with fail
  refine NM.out.mono ?_
  rintro e w7 ⟨rfl, rfl⟩
  have NL := hide (name_small kLog (by decide) 3 (by decide) (by decide) w7)
  rw [n3] at NL
  unfold kLog at NL
  clear NM
  go_wp2_with fail
  refine NL.out.mono ?_
  rintro e w8 ⟨rfl, rfl⟩
  clear NL
  go_wp2
  go_ret
  exact ⟨rfl, HB6.out⟩

end Go.Proofs.YtcahlmneancapaaGreatDoor.Clep

/- What a number and a mask come to. No conditions. -/
namespace Go.Proofs.YtcahlmneancapaaGreatDoor.Clep
open Go.RowKit
set_option linter.unusedVariables false
set_option maxRecDepth 10000

theorem andu (x : Int) (m : Nat) (hm : m < 9223372036854775808) : 0 ≤ bits .and .u64 x m ∧ bits .and .u64 x m ≤ m := by
  have e : bits .and .u64 x m = IntKind.u64.wrap ((BitVec.ofInt 64 x &&& BitVec.ofInt 64 (m : Int)).toNat : Int) := rfl
  have hle : (BitVec.ofInt 64 x &&& BitVec.ofInt 64 (m : Int)).toNat ≤ m := by
    rw [BitVec.toNat_and]
    refine Nat.le_trans Nat.and_le_right ?_
    rw [BitVec.ofInt_natCast, BitVec.toNat_ofNat]
    exact Nat.mod_le _ _
  rw [e]
  generalize (BitVec.ofInt 64 x &&& BitVec.ofInt 64 (m : Int)).toNat = k at *
  simp [IntKind.wrap, IntKind.bits, IntKind.signed]
  omega
theorem andi (x : Int) (m : Nat) (hm : m < 9223372036854775808) : 0 ≤ bits .and .i64 x m ∧ bits .and .i64 x m ≤ m := by
  have e : bits .and .i64 x m = IntKind.i64.wrap ((BitVec.ofInt 64 x &&& BitVec.ofInt 64 (m : Int)).toNat : Int) := rfl
  have hle : (BitVec.ofInt 64 x &&& BitVec.ofInt 64 (m : Int)).toNat ≤ m := by
    rw [BitVec.toNat_and]
    refine Nat.le_trans Nat.and_le_right ?_
    rw [BitVec.ofInt_natCast, BitVec.toNat_ofNat]
    exact Nat.mod_le _ _
  rw [e]
  generalize (BitVec.ofInt 64 x &&& BitVec.ofInt 64 (m : Int)).toNat = k at *
  simp [IntKind.wrap, IntKind.bits, IntKind.signed]
  omega

end Go.Proofs.YtcahlmneancapaaGreatDoor.Clep
