/- What the document's own ReadEdit does when called: what its blocks hold between its steps; when the bytes are no Edit. No conditions. -/
import Derived.Test.YtcahlmneancapaaGreatDoorFv21
import Derived.Test.YtcahlmneancapaaGreatDoorFv17
import Derived.Test.YtcahlmneancapaaGreatDoorFv18
import Derived.Test.YtcahlmneancapaaGreatDoorFv03
namespace Go.Proofs.YtcahlmneancapaaGreatDoor.Clep
open Go.RowKit
set_option linter.unusedVariables false
set_option maxRecDepth 10000

theorem red_none {X : List Int} (h : okR X = true → mayB (rawE X) = true → False) : red X = none := by
  unfold red
  rw [if_neg]
  intro hh
  rw [Bool.and_eq_true] at hh
  exact h hh.1 hh.2
theorem red_drop {X : List Int} (z : Int) (hz : z ∈ (ul X 40).1) (hb : 1073741824 < z) : red X = none := red_none fun _ hm => by
  have := ((emay_parts ((mayB_iff _).1 hm)).2.1 z hz).2
  omega
theorem okR_parts {X : List Int} (h : okR X = true) : (ul X 40).2.2 = 0 ∧ cX X ≤ 40 ∧ (stN (s1X X) (2 * (cX X).toNat + 5)).2 = false ∧ (stN (s1X X) (2 * (cX X).toNat + 5)).1.length = 0 := by
  unfold okR at h
  simp only [Bool.and_eq_true, decide_eq_true_eq, Bool.not_eq_true'] at h
  exact ⟨h.1, h.2.1, h.2.2.1, h.2.2.2⟩
theorem red_head {X : List Int} (h : (s1X X).2 = true) : red X = none := red_none fun ho _ => by
  have h1 := stN_bad (s1X X) 0 (2 * (cX X).toNat + 5) h
  rw [Nat.zero_add, (okR_parts ho).2.2.1] at h1
  cases h1
theorem red_count {X : List Int} (h : 40 < cX X) : red X = none := red_none fun ho _ => by
  have := (okR_parts ho).2.1
  omega
theorem red_stop {X : List Int} (j : Nat) (hj : j ≤ 2 * (cX X).toNat + 5) (h : (stN (s1X X) j).2 = true) : red X = none := red_none fun ho _ => by
  have h1 := stN_bad (s1X X) j (2 * (cX X).toNat + 5 - j) h
  rw [show j + (2 * (cX X).toNat + 5 - j) = 2 * (cX X).toNat + 5 from by omega, (okR_parts ho).2.2.1] at h1
  cases h1
theorem red_end {X : List Int} (h : 0 < (stN (s1X X) (2 * (cX X).toNat + 5)).1.length) : red X = none := red_none fun ho _ => by
  have := (okR_parts ho).2.2.2
  omega
theorem red_great {X : List Int} (j : Nat) (hj : j < 2 * (cX X).toNat + 5) (h : 281474976710656 < nr (s1X X) j) : red X = none := red_none fun _ hm => by
  have hp := emay_parts ((mayB_iff _).1 hm)
  unfold rawE at hp
  simp only at hp
  obtain ⟨_, _, hf, hl, h1, h2, h3, h4⟩ := hp
  rcases Nat.lt_or_ge j (2 * (cX X).toNat) with hlt | hge
  · have hmem : (⟨nr (s1X X) (2 * (j / 2)), nr (s1X X) (2 * (j / 2) + 1)⟩ : Fi) ∈ fX X (cX X).toNat := List.mem_map.2 ⟨j / 2, List.mem_range.2 (by omega), rfl⟩
    have hq := hf _ hmem
    simp only at hq
    rcases Nat.mod_two_eq_zero_or_one j with hm2 | hm2
    · rw [show 2 * (j / 2) = j from by omega] at hq
      omega
    · rw [show 2 * (j / 2) + 1 = j from by omega] at hq
      omega
  · obtain ⟨t, rfl⟩ : ∃ t, j = 2 * (cX X).toNat + t := ⟨j - 2 * (cX X).toNat, by omega⟩
    have ht : t = 0 ∨ t = 1 ∨ t = 2 ∨ t = 3 ∨ t = 4 := by omega
    generalize nr (s1X X) = N at *
    generalize 2 * (cX X).toNat = M at *
    rcases ht with rfl | rfl | rfl | rfl | rfl
    · rw [Nat.add_zero] at h; omega
    · omega
    · omega
    · omega
    · omega
/-- Between the steps of the document's ReadEdit. -/
structure RT (w : World) (Q : Nat) (W : World) (cs : Array Value) : Prop where
  z : Ek W w.heap.size zE7 34
  q : Ek W Q cs 34
  bel : Below w.heap.size w W
  lt : w.heap.size < Q
section
variable {w W W' : World} {Q : Nat} {cs : Array Value}
theorem RT.drew (h : RT w Q W cs) : RT w Q W.drew cs := ⟨h.z.drew, h.q.drew, h.bel.drew, h.lt⟩
theorem RT.keep (h : RT w Q W cs) (hb : Below W.heap.size W W') : RT w Q W' cs := ⟨h.z.below hb h.z.lt, h.q.below hb h.q.lt, h.bel.trans (hb.mono h.bel.size), h.lt⟩
theorem RT.row (h : RT w Q W cs) {row : Option Nat} (hg : W.grownBy W' row) (hk : ∀ k, row = some k → Q + 1 ≤ k) : RT w Q W' cs := by
  have hl := h.lt
  refine ⟨h.z.gb hg (fun e => ?_), h.q.gb hg (fun e => ?_), h.bel.grown hg h.bel.size (fun k e => ?_), hl⟩
  · have := hk _ e.symm; omega
  · have := hk _ e.symm; omega
  · have := hk _ e; omega
theorem RT.setq (h : RT w Q W cs) (k : Nat) (u : Value) : RT w Q (W.setCell ⟨Q, k, none⟩ u) (cs.setIfInBounds k u) := by
  have hl := h.lt
  have hg := fgb_set W ⟨Q, k, none⟩ u
  refine ⟨h.z.gb hg (fun e => ?_), h.q.set k u, h.bel.grown hg h.bel.size (fun k e => ?_), hl⟩
  · have : w.heap.size = Q := Option.some.inj e; omega
  · have : Q = k := Option.some.inj e; omega
theorem RT.sz (h : RT w Q W cs) : Q + 1 ≤ W.heap.size := h.q.lt
end
theorem Us.gb {w w' : World} {row : Option Nat} {ao : Option Addr} {n c : Nat} {l : List Int} (h : Us w ao n c l) (hg : w.grownBy w' row) (hne : ∀ a, ao = some a → some a.block ≠ row) : Us w' ao n c l := by
  refine ⟨h.1, h.2.1, h.2.2.1, fun h0 => ?_⟩
  obtain ⟨b, off, e, hc⟩ := h.2.2.2 h0
  refine ⟨b, off, e, fun i hi => ?_⟩
  have := hc i hi
  exact gb_cells hg (World.block_lt_of_cell? w _ this) (by have := hne _ e; exact this) _ _ this
theorem ownZ_grown {w w' : World} {B : Nat} {v : Value} {l : List Int} {row : Option Nat} (h : OwnZ w B v l) (hg : w.grownBy w' row) (hne : ∀ k, row = some k → k < B) : OwnZ w' B v l := by
  refine World.ownsRow.kept h hg ?_
  cases hv : v.ownBlock with
  | none => exact .inl rfl
  | some k =>
    refine .inr (fun e => ?_)
    have h1 := World.ownsRow.lt h k hv
    have := hne k e.symm
    omega
theorem ownU_grown {w w' : World} {B : Nat} {v : Value} {l : List Int} {row : Option Nat} (h : OwnU w B v l) (hg : w.grownBy w' row) (hne : ∀ k, row = some k → k < B) : OwnU w' B v l := by
  refine World.ownsRow.kept h hg ?_
  cases hv : v.ownBlock with
  | none => exact .inl rfl
  | some k =>
    refine .inr (fun e => ?_)
    have h1 := World.ownsRow.lt h k hv
    have := hne k e.symm
    omega
theorem step_append_z {w : World} {ops : Array Oper} {o : Oper} {a : Act} {K : Act → World → Prop} {Q : Exit → Act → World → Prop} {E : Prop} (hgd : o.guard = none) (s x : Operand)
    (ho : o.op = .call { callee := .builtin .append, args := #[s, x], argTypes := #[32, 32] })
    (base : Nat) (v : Value) (ns : List Int) (hs : a.eval s = v) (hown : OwnZ w base v ns) (p : Nat) (z : Int) (hx : a.eval x = .slice (some ⟨p, 0, none⟩) 1 1) (hp : Ek w p #[.int .i64 z] 3)
    (hlen : ns.length ≤ 100000) (hbase : base ≤ w.heap.size)
    (h : ∀ v' w', OwnZ w' base v' (ns ++ [z]) → w.grownBy w' v.ownBlock → (∀ k, v.ownBlock = some k → base ≤ k) → K (a.put o.dst v') w') :
    if Region.wanted o (yielded ops a.tmps) = true then Oper.wp Tryz.prog o a w K Q else E := by
  have hw : Region.wanted o (yielded ops a.tmps) = true := by simp [Region.wanted, hgd]
  rw [if_pos hw]
  obtain ⟨i0, hi, hz0, hz1, hz2⟩ := info_parts info_int
  refine wp_append_own _ s x 32 ho base 3 i0 (.int .i64 0) 1 8 Tryz.underlying32 hi hz0 hz1 hz2 rfl (by decide) v ns.length (iv9 ns) hs hown ⟨p, 0, none⟩ 1 1 [.int .i64 z] hx rfl ?_ ?_ (by unfold maxLen; omega) (by omega) hbase ?_
  · intro j u hu
    match j, hu with
    | 0, hu =>
      simp at hu
      subst hu
      exact hp.cell rfl
    | k + 1, hu => simp at hu
  · intro u hu
    simp at hu
    subst hu
    rfl
  · intro v' w' h1 h2 _
    refine h v' w' ?_ h2 (fun k hk => (World.ownsRow.lt hown k hk).1)
    unfold OwnZ iv9
    simpa [iv9] using h1
/-- Between the rounds of the last loop of the document's ReadEdit. -/
structure RV (w : World) (Q B : Nat) (dd : Option Addr) (dn dc : Nat) (ds : List Int) (la : Option Addr) (ln lc : Nat) (ls : List Int) (W : World) (cs : Array Value) (fv : Value) (fl : List Fi) : Prop where
  rt : RT w Q W cs
  own : OwnF W B fv fl
  d : Zs W dd dn dc ds
  l : Us W la ln lc ls
  db : ∀ a, dd = some a → Q < a.block ∧ a.block < B
  lb : ∀ a, la = some a → Q < a.block ∧ a.block < B
  sz : B ≤ W.heap.size
  qb : Q < B
section
variable {w W W' : World} {Q B : Nat} {dd : Option Addr} {dn dc : Nat} {ds : List Int} {la : Option Addr} {ln lc : Nat} {ls : List Int} {cs : Array Value} {fv fv' : Value} {fl fl' : List Fi}
theorem RV.keep (h : RV w Q B dd dn dc ds la ln lc ls W cs fv fl) (hb : Below W.heap.size W W') : RV w Q B dd dn dc ds la ln lc ls W' cs fv fl :=
  ⟨h.rt.keep hb, ownF_keep h.own hb, h.d.below hb (Nat.le_refl _), h.l.below hb (Nat.le_refl _), h.db, h.lb, Nat.le_trans h.sz hb.size, h.qb⟩
theorem RV.drew (h : RV w Q B dd dn dc ds la ln lc ls W cs fv fl) : RV w Q B dd dn dc ds la ln lc ls W.drew cs fv fl := h.keep (Below.refl _ W).drew
theorem RV.row (h : RV w Q B dd dn dc ds la ln lc ls W cs fv fl) {row : Option Nat} (hg : W.grownBy W' row) (hk : ∀ k, row = some k → B ≤ k) (ho : OwnF W' B fv' fl') : RV w Q B dd dn dc ds la ln lc ls W' cs fv' fl' := by
  have hq := h.qb
  refine ⟨h.rt.row hg (fun k e => by have := hk k e; omega), ho, h.d.gb hg (fun a ha e => ?_), h.l.gb hg (fun a ha e => ?_), h.db, h.lb, Nat.le_trans h.sz hg.size, hq⟩
  · have := h.db a ha; have := hk _ e.symm; omega
  · have := h.lb a ha; have := hk _ e.symm; omega
theorem RV.setq (h : RV w Q B dd dn dc ds la ln lc ls W cs fv fl) (k : Nat) (u : Value) : RV w Q B dd dn dc ds la ln lc ls (W.setCell ⟨Q, k, none⟩ u) (cs.setIfInBounds k u) fv fl := by
  have hq := h.qb
  have hg := fgb_set W ⟨Q, k, none⟩ u
  refine ⟨h.rt.setq k u, ownF_grown h.own hg (fun k e => ?_), h.d.gb hg (fun a ha e => ?_), h.l.gb hg (fun a ha e => ?_), h.db, h.lb, Nat.le_trans h.sz hg.size, hq⟩
  · have : Q = k := Option.some.inj e; omega
  · have := h.db a ha; have : a.block = Q := Option.some.inj e; omega
  · have := h.lb a ha; have : a.block = Q := Option.some.inj e; omega
end
theorem map_range_get (f : Nat → Int) (n i : Nat) (h : i < n) : ((List.range n).map f).getD i 0 = f i := by
  simp [List.getD, h]

end Go.Proofs.YtcahlmneancapaaGreatDoor.Clep

/- What a row of bytes says, frame behind frame, up to the first that is none. -/
namespace Go.Proofs.YtcahlmneancapaaGreatDoor.Clep
open Go.RowKit
set_option linter.unusedVariables false
set_option maxRecDepth 10000

/-- Frames from the front on, at most f of them: kinds and bodies, where the last ends, why. -/
def sp : Nat → List Int → List (Int × List Int) × Nat × Int
  | 0, _ => ([], 0, 0)
  | f + 1, X => if X = [] then ([], 0, 0) else if ce X = 0 then
      ((kd X, bo X) :: (sp f (X.drop ((ln X).toNat + 12))).1, (ln X).toNat + 12 + (sp f (X.drop ((ln X).toNat + 12))).2.1, (sp f (X.drop ((ln X).toNat + 12))).2.2)
    else ([], 0, ce X)
def SP (X : List Int) : List (Int × List Int) × Nat × Int := sp X.length X

theorem sp_succ (f : Nat) (X : List Int) : sp (f + 1) X = if X = [] then ([], 0, 0) else if ce X = 0 then
      ((kd X, bo X) :: (sp f (X.drop ((ln X).toNat + 12))).1, (ln X).toNat + 12 + (sp f (X.drop ((ln X).toNat + 12))).2.1, (sp f (X.drop ((ln X).toNat + 12))).2.2)
    else ([], 0, ce X) := rfl
theorem sp_fuel : ∀ (f g : Nat) (X : List Int), X.length ≤ f → X.length ≤ g → sp f X = sp g X
  | 0, 0, _, _, _ => rfl
  | 0, g + 1, X, hf, _ => by
    have : X = [] := List.eq_nil_of_length_eq_zero (by omega)
    subst this; simp [sp]
  | f + 1, 0, X, _, hg => by
    have : X = [] := List.eq_nil_of_length_eq_zero (by omega)
    subst this; simp [sp]
  | f + 1, g + 1, X, hf, hg => by
    have ih : X ≠ [] → sp f (X.drop ((ln X).toNat + 12)) = sp g (X.drop ((ln X).toNat + 12)) := fun hx => by
      have : 0 < X.length := List.length_pos_iff.2 hx
      exact sp_fuel f g _ (by rw [List.length_drop]; omega) (by rw [List.length_drop]; omega)
    rw [sp_succ, sp_succ]
    split
    · rfl
    · rename_i hx
      rw [ih hx]
theorem SP_nil : SP [] = ([], 0, 0) := rfl
theorem SP_bad (X : List Int) (hx : X ≠ []) (hc : ce X ≠ 0) : SP X = ([], 0, ce X) := by
  unfold SP
  obtain ⟨f, hf⟩ : ∃ f, X.length = f + 1 := ⟨X.length - 1, by have := List.length_pos_iff.2 hx; omega⟩
  rw [hf, sp_succ, if_neg hx, if_neg hc]
theorem SP_good (X : List Int) (hc : ce X = 0) : SP X = ((kd X, bo X) :: (SP (X.drop ((ln X).toNat + 12))).1, (ln X).toNat + 12 + (SP (X.drop ((ln X).toNat + 12))).2.1, (SP (X.drop ((ln X).toNat + 12))).2.2) := by
  have hk := ce_ok X hc
  have hx : X ≠ [] := fun h => by subst h; simp at hk
  obtain ⟨f, hf⟩ : ∃ f, X.length = f + 1 := ⟨X.length - 1, by omega⟩
  have e : SP (X.drop ((ln X).toNat + 12)) = sp f (X.drop ((ln X).toNat + 12)) := sp_fuel _ f _ (Nat.le_refl _) (by rw [List.length_drop]; omega)
  rw [e]
  unfold SP
  rw [hf, sp_succ, if_neg hx, if_pos hc]
theorem SP_front (k : Int) (ys r : List Int) (hk : 1 ≤ k) (hk2 : k ≤ 100) (hn : ys.length ≤ 60000) (hy : ByteL ys) :
    SP (fr k ys ++ r) = ((k, ys) :: (SP r).1, ys.length + 12 + (SP r).2.1, (SP r).2.2) := by
  rw [SP_good _ (fr_ce k ys r hk hk2 hn hy), fr_kd, fr_bo k ys r hn, fr_ln k ys r hn, Int.toNat_natCast, drop_app (fr k ys) r _ (fr_len k ys)]

/-- Behind j frames the place is P. -/
def At (zs : List Int) (j P : Nat) : Prop := P ≤ zs.length ∧ j ≤ P ∧ (SP zs).1.drop j = (SP (zs.drop P)).1 ∧ j ≤ (SP zs).1.length ∧ (SP zs).2.1 = P + (SP (zs.drop P)).2.1 ∧ (SP zs).2.2 = (SP (zs.drop P)).2.2
theorem At.start (zs : List Int) : At zs 0 0 := ⟨by omega, by omega, by simp, by omega, by simp, by simp⟩
theorem At.end {zs : List Int} {j P : Nat} (h : At zs j P) (hP : P = zs.length) : (SP zs).1.length = j ∧ (SP zs).2.1 = P ∧ (SP zs).2.2 = 0 := by
  obtain ⟨_, _, h1, h2, h3, h4⟩ := h
  rw [hP, List.drop_length, SP_nil] at h1 h3 h4
  have := List.drop_eq_nil_iff.1 h1
  exact ⟨by omega, by rw [h3, hP]; rfl, h4⟩
theorem At.stop {zs : List Int} {j P : Nat} (h : At zs j P) (hP : P < zs.length) (hc : ce (zs.drop P) ≠ 0) : (SP zs).1.length = j ∧ (SP zs).2.1 = P ∧ (SP zs).2.2 = ce (zs.drop P) := by
  obtain ⟨_, _, h1, h2, h3, h4⟩ := h
  have hx : zs.drop P ≠ [] := fun h => by have := List.drop_eq_nil_iff.1 h; omega
  rw [SP_bad _ hx hc] at h1 h3 h4
  have := List.drop_eq_nil_iff.1 h1
  exact ⟨by omega, by rw [h3]; rfl, h4⟩
theorem At.step {zs : List Int} {j P : Nat} (h : At zs j P) (hc : ce (zs.drop P) = 0) : At zs (j + 1) (P + ((ln (zs.drop P)).toNat + 12)) ∧ j < (SP zs).1.length ∧ (SP zs).1.getD j (0, []) = (kd (zs.drop P), bo (zs.drop P)) := by
  obtain ⟨hP, hj, h1, h2, h3, h4⟩ := h
  have hk := ce_ok _ hc
  rw [List.length_drop] at hk
  rw [SP_good _ hc, List.drop_drop] at h1 h3 h4
  have hlt : j < (SP zs).1.length := by
    rcases Nat.lt_or_ge j (SP zs).1.length with h | h
    · exact h
    · rw [List.drop_eq_nil_of_le h] at h1; cases h1
  rw [List.drop_eq_getElem_cons hlt] at h1
  injection h1 with h5 h6
  refine ⟨⟨by omega, by omega, h6, by omega, by rw [h3]; simp only []; omega, h4⟩, hlt, ?_⟩
  rw [List.getD, List.getElem?_eq_getElem hlt, Option.getD_some, h5]
theorem At.more {zs : List Int} {j P : Nat} (h : At zs j P) (hj : j < (SP zs).1.length) : ce (zs.drop P) = 0 := by
  rcases Classical.em (ce (zs.drop P) = 0) with h0 | h0
  · exact h0
  · have hP := h.1
    rcases Nat.lt_or_ge P zs.length with hl | hl
    · have := (h.stop hl h0).1; omega
    · have := (h.end (by omega)).1; omega

end Go.Proofs.YtcahlmneancapaaGreatDoor.Clep

/- What the document's own FrameOk and Frame (package clepsydraref1) do when called: for any kind, any text. No conditions but the kinds' own bounds. -/
namespace Go.Proofs.YtcahlmneancapaaGreatDoor.Clep
open Go.RowKit
set_option linter.unusedVariables false
set_option maxRecDepth 10000

/-- What FrameOk answers. -/
def fk (k n : Int) : Int := if k < 1 ∨ 100 < k then 1 else if 60000 < n then 2 else 0
end Go.Proofs.YtcahlmneancapaaGreatDoor.Clep

/- Heads of frames. No conditions. -/
namespace Go.Proofs.YtcahlmneancapaaGreatDoor.Clep
open Go.RowKit
set_option linter.unusedVariables false
set_option maxRecDepth 10000

theorem hd_kd (k : Int) (n : Nat) (r : List Int) : kd (sl (hd k n) ++ r) = k := by simp [kd, sl, hd]
theorem hd_ln (k : Int) (n : Nat) (r : List Int) (hn : n ≤ 60000) : ln (sl (hd k n) ++ r) = n := by
  simp only [ln, sl, hd, List.cons_append, List.nil_append, List.getD_cons_succ, List.getD_cons_zero]
  omega
theorem hd_he (k : Int) (n : Nat) (r : List Int) (hk : 1 ≤ k) (hk2 : k ≤ 100) (hn : n ≤ 60000) : he (sl (hd k n) ++ r) = 0 := by
  have hg : nn ((sl (hd k n)).drop 4) = crc ((sl (hd k n)).take 4) := good_sl (hd k n) (hd_range k n hk hk2 hn)
  unfold he
  rw [List.take_append_of_le_length (by rw [sl_len, hd_len]; omega), List.take_of_length_le (by rw [sl_len, hd_len]; omega), if_pos hg]
/-- A frame that is cut is torn. -/
theorem torn (k : Int) (ys : List Int) (t : Nat) (hk : 1 ≤ k) (hk2 : k ≤ 100) (hn : ys.length ≤ 60000) (ht : t < ys.length + 12) : ce ((fr k ys).take t) = 4 := by
  have hlen : ((fr k ys).take t).length = t := by rw [List.length_take, fr_len]; omega
  rcases Nat.lt_or_ge t 8 with h | h
  · unfold ce; rw [if_pos (by omega)]
  · have e : (fr k ys).take t = sl (hd k ys.length) ++ (sl ys).take (t - 8) := by
      unfold fr
      rw [List.take_append, List.take_of_length_le (by rw [sl_len, hd_len]; omega), sl_len, hd_len]
    unfold ce
    rw [if_neg (by omega), hlen, e, if_neg (by rw [hd_he _ _ _ hk hk2 hn]; simp), if_neg (by rw [hd_kd, hd_ln _ _ _ hn]; omega), if_pos (by rw [hd_ln _ _ _ hn]; omega)]


end Go.Proofs.YtcahlmneancapaaGreatDoor.Clep

/- A log of Edits as a row of bytes: which View its frames make, also where it is cut. No conditions. -/
namespace Go.Proofs.YtcahlmneancapaaGreatDoor.Clep
open Go.RowKit
set_option linter.unusedVariables false
set_option maxRecDepth 10000

/-- The View that frames make of V, one by one. -/
def fE (V : Vw) : List (Int × List Int) → Option Vw
  | [] => some V
  | x :: r => if x.1 = 6 then (match red x.2 with
    | none => none
    | some E => match appl V E with
      | none => none
      | some U => fE U r) else none
theorem fE_cons (V : Vw) (x : Int × List Int) (r : List (Int × List Int)) : fE V (x :: r) = if x.1 = 6 then (match red x.2 with
    | none => none
    | some E => match appl V E with
      | none => none
      | some U => fE U r) else none := rfl
theorem fE_app : ∀ (F G : List (Int × List Int)) (V : Vw), fE V (F ++ G) = (fE V F).bind (fun U => fE U G)
  | [], G, V => rfl
  | x :: F, G, V => by
    rw [List.cons_append, fE_cons, fE_cons]
    split
    · cases h1 : red x.2 with
      | none => rfl
      | some E =>
        cases h2 : appl V E with
        | none => simp only; rw [h2]; rfl
        | some U => simp only; rw [h2]; exact fE_app F G U
    · rfl
/-- What the Edit of a body makes of V. -/
def cgd (V : Vw) (X : List Int) : Option Vw := match red X with
  | none => none
  | some E => appl V E
theorem fE_one (V : Vw) (x : Int × List Int) : fE V [x] = if x.1 = 6 then cgd V x.2 else none := by
  unfold fE cgd
  split
  · cases h1 : red x.2 with
    | none => rfl
    | some E =>
      cases h2 : appl V E with
      | none => simp only; rw [h2]
      | some U => simp only; rw [h2]; rfl
  · rfl
theorem fE_next {F : List (Int × List Int)} {j : Nat} {V : Vw} (hj : j < F.length) (h : fE zV (F.take j) = some V) : fE zV (F.take (j + 1)) = if (F.getD j (0, [])).1 = 6 then cgd V (F.getD j (0, [])).2 else none := by
  have e : F.take (j + 1) = F.take j ++ [F.getD j (0, [])] := by
    rw [List.take_add_one, List.getElem?_eq_getElem hj]
    simp [List.getD, List.getElem?_eq_getElem hj]
  rw [e, fE_app, h]
  exact fE_one V _
theorem fE_bad {F : List (Int × List Int)} {j : Nat} (h : fE zV (F.take j) = none) : fE zV F = none := by
  conv => lhs; rw [← List.take_append_drop j F]
  rw [fE_app, h]
  rfl
/-- What Replay tells: the View, and where the last frame ends. -/
def rpE (X : List Int) : Option (Vw × Nat) := if ((SP X).2.2 = 0 ∨ (SP X).2.2 = 4) ∧ 0 < (SP X).1.length then (match fE zV (SP X).1 with
  | none => none
  | some V => some (V, (SP X).2.1)) else none
theorem rpE_bad {X : List Int} {j : Nat} (h : fE zV ((SP X).1.take j) = none) : rpE X = none := by
  unfold rpE
  rw [fE_bad h]
  split <;> rfl
theorem rpE_err {X : List Int} (h0 : (SP X).2.2 ≠ 0) (h4 : (SP X).2.2 ≠ 4) : rpE X = none := by
  unfold rpE
  rw [if_neg]
  rintro ⟨h | h, _⟩
  · exact h0 h
  · exact h4 h
theorem rpE_zero {X : List Int} (h : (SP X).1.length = 0) : rpE X = none := by
  unfold rpE
  rw [if_neg]
  rintro ⟨_, h2⟩
  omega
theorem rpE_some {X : List Int} {V : Vw} (h : (SP X).2.2 = 0 ∨ (SP X).2.2 = 4) (h0 : 0 < (SP X).1.length) (hf : fE zV (SP X).1 = some V) : rpE X = some (V, (SP X).2.1) := by
  unfold rpE
  rw [if_pos ⟨h, h0⟩, hf]
theorem appl_ok {V U : Vw} {E : Ed} (h : appl V E = some U) : vok U = true := by
  unfold appl at h
  split at h
  · cases h
  · split at h
    · rename_i hv
      injection h with h
      rw [← h]
      exact hv
    · cases h
theorem cgd_ok {V U : Vw} {X : List Int} (h : cgd V X = some U) : vok U = true := by
  unfold cgd at h
  split at h
  · cases h
  · exact appl_ok h
theorem fE_ok : ∀ (F : List (Int × List Int)) (V U : Vw), fE V F = some U → (F = [] ∧ U = V) ∨ vok U = true
  | [], V, U, h => .inl ⟨rfl, (Option.some.inj h).symm⟩
  | x :: r, V, U, h => by
    right
    unfold fE at h
    split at h
    · split at h
      · cases h
      · split at h
        · cases h
        · rename_i W hW
          rcases fE_ok r W U h with ⟨_, rfl⟩ | h2
          · exact appl_ok hW
          · exact h2
    · cases h
/-- An Edit that may be. -/
def Eg (E : Ed) : Prop := emay E = 0 ∧ (0 ≤ E.fl ∧ 0 ≤ E.ct ∧ 0 ≤ E.at9 ∧ 0 ≤ E.ls)
/-- The log of Edits. -/
def el (l : List Ed) : List Int := l.flatMap (fun E => fr 6 (ebd E))
theorem el_cons (E : Ed) (l : List Ed) : el (E :: l) = fr 6 (ebd E) ++ el l := List.flatMap_cons
theorem el_app (a b : List Ed) : el (a ++ b) = el a ++ el b := List.flatMap_append
theorem el_one (E : Ed) : el [E] = fr 6 (ebd E) := by rw [el_cons]; simp [el]
theorem el_range : ∀ (l : List Ed), (∀ E ∈ l, Eg E) → ByteL (el l)
  | [], _ => fun z hz => by simp [el] at hz
  | E :: l, h => by
    have he := h E (by simp)
    rw [el_cons]
    exact ByteL.append (fr_range 6 (ebd E) (by omega) (by omega) (by have := ebd_len he.1; omega) (ebd_range he.1 he.2)) (el_range l (fun x hx => h x (by simp [hx])))
theorem el_len : ∀ (l : List Ed), (∀ E ∈ l, Eg E) → (el l).length ≤ 1312 * l.length
  | [], _ => by simp [el]
  | E :: l, h => by
    have h1 := el_len l (fun x hx => h x (by simp [hx]))
    have h2 := ebd_len (h E (by simp)).1
    rw [el_cons, List.length_append, fr_len, List.length_cons]
    omega
theorem SP_el : ∀ (l : List Ed), (∀ E ∈ l, Eg E) → ∀ r : List Int, SP (el l ++ r) = (l.map (fun E => ((6 : Int), ebd E)) ++ (SP r).1, (el l).length + (SP r).2.1, (SP r).2.2)
  | [], _, r => by simp [el]
  | E :: l, h, r => by
    have he := h E (by simp)
    rw [el_cons, List.append_assoc, SP_front 6 (ebd E) _ (by omega) (by omega) (by have := ebd_len he.1; omega) (ebd_range he.1 he.2), SP_el l (fun x hx => h x (by simp [hx])) r]
    simp only [List.map_cons, List.cons_append, List.length_append, fr_len]
    refine Prod.ext rfl (Prod.ext ?_ rfl)
    show _ + _ + (_ + _) = _ + _ + _
    omega
/-- Edits one behind the other. -/
def apE (V : Vw) : List Ed → Option Vw
  | [] => some V
  | E :: l => match appl V E with
    | none => none
    | some U => apE U l
theorem apE_cons (V : Vw) (E : Ed) (l : List Ed) : apE V (E :: l) = match appl V E with
    | none => none
    | some U => apE U l := rfl
theorem apE_app : ∀ (a b : List Ed) (V : Vw), apE V (a ++ b) = (apE V a).bind (fun U => apE U b)
  | [], b, V => rfl
  | E :: a, b, V => by
    rw [List.cons_append, apE_cons, apE_cons]
    cases appl V E with
    | none => rfl
    | some U => exact apE_app a b U
theorem apE_snoc {l : List Ed} {V U : Vw} {E : Ed} (h : apE zV l = some V) (h2 : appl V E = some U) : apE zV (l ++ [E]) = some U := by
  rw [apE_app, h]
  show apE V [E] = some U
  unfold apE
  rw [h2]
  rfl
theorem fE_el : ∀ (l : List Ed), (∀ E ∈ l, Eg E) → ∀ V, fE V (l.map (fun E => ((6 : Int), ebd E))) = apE V l
  | [], _, V => rfl
  | E :: l, h, V => by
    have he := h E (by simp)
    rw [List.map_cons]
    unfold fE apE
    rw [if_pos rfl]
    simp only [ebd_read he.1 he.2]
    cases appl V E with
    | none => rfl
    | some U => exact fE_el l (fun x hx => h x (by simp [hx])) U
/-- Where the first k Edits end. -/
def een (l : List Ed) (k : Nat) : Nat := (el (l.take k)).length
theorem een_zero (l : List Ed) : een l 0 = 0 := rfl
theorem een_succ (l : List Ed) (k : Nat) (E : Ed) (h : l[k]? = some E) : een l (k + 1) = een l k + (ebd E).length + 12 := by
  unfold een
  rw [List.take_add_one, h, el_app, List.length_append]
  show _ + (el [E]).length = _
  rw [el_one, fr_len]
  omega
theorem el_split (l : List Ed) (k : Nat) : el l = el (l.take k) ++ el (l.drop k) := by rw [← el_app, List.take_append_drop]
theorem een_all (l : List Ed) (k : Nat) (h : l.length ≤ k) : een l k = (el l).length := by unfold een; rw [List.take_of_length_le h]
theorem een_le (l : List Ed) (k : Nat) : een l k ≤ (el l).length := by rw [el_split l k, List.length_append]; unfold een; omega
theorem rpE_all {l : List Ed} (h : ∀ E ∈ l, Eg E) {V : Vw} (hV : apE zV l = some V) : rpE (el l) = if l.length = 0 then none else some (V, (el l).length) := by
  have hs := SP_el l h []
  rw [List.append_nil, SP_nil, List.append_nil, Nat.add_zero] at hs
  have hn : (SP (el l)).1.length = l.length := by rw [hs]; simp
  split
  · rename_i h0
    exact rpE_zero (by omega)
  · rename_i h0
    rw [rpE_some (V := V) (by rw [hs]; exact .inl rfl) (by omega) (by rw [hs]; show fE zV (l.map _) = _; rw [fE_el l h, hV])]
    rw [hs]
/-- A log of Edits that is cut at K, n of them whole. -/
theorem rpE_cut {l : List Ed} (h : ∀ E ∈ l, Eg E) (n K : Nat) {V : Vw} (hV : apE zV (l.take n) = some V) (hn : n ≤ l.length) (hK : K ≤ (el l).length) (h1 : een l n ≤ K) (h2 : n < l.length → K < een l (n + 1)) : rpE ((el l).take K) = if n = 0 then none else some (V, een l n) := by
  have hg : ∀ E ∈ l.take n, Eg E := fun E hE => h E (List.mem_of_mem_take hE)
  have e : (el l).take K = el (l.take n) ++ (el (l.drop n)).take (K - een l n) := by
    conv => lhs; rw [el_split l n]
    rw [List.take_append, List.take_of_length_le (by unfold een at h1; omega)]
    rfl
  have hs := SP_el (l.take n) hg ((el (l.drop n)).take (K - een l n))
  rw [← e] at hs
  have hr : (SP ((el (l.drop n)).take (K - een l n))).1 = [] ∧ (SP ((el (l.drop n)).take (K - een l n))).2.1 = 0 ∧ ((SP ((el (l.drop n)).take (K - een l n))).2.2 = 0 ∨ (SP ((el (l.drop n)).take (K - een l n))).2.2 = 4) := by
    rcases Nat.eq_zero_or_pos (K - een l n) with h0 | h0
    · rw [h0, List.take_zero, SP_nil]; exact ⟨rfl, rfl, .inl rfl⟩
    rcases Nat.lt_or_ge n l.length with hl | hl
    · have hx : l[n]? = some l[n] := List.getElem?_eq_getElem hl
      have hd : l.drop n = l[n] :: l.drop (n + 1) := List.drop_eq_getElem_cons hl
      have h3 := een_succ l n _ hx
      have h4 := h2 hl
      have hg := h _ (List.getElem_mem hl)
      rw [hd, el_cons, List.take_append_of_le_length (by rw [fr_len]; omega)]
      have hc : ce ((fr 6 (ebd l[n])).take (K - een l n)) = 4 := torn 6 (ebd l[n]) _ (by omega) (by omega) (by have := ebd_len hg.1; omega) (by omega)
      have hx2 : (fr 6 (ebd l[n])).take (K - een l n) ≠ [] := fun e => by
        have := congrArg List.length e
        rw [List.length_take, List.length_nil, fr_len] at this
        omega
      rw [SP_bad _ hx2 (by rw [hc]; decide), hc]
      exact ⟨rfl, rfl, .inr rfl⟩
    · rw [List.drop_eq_nil_of_le hl]
      simp [el, SP_nil]
  rw [hr.1, hr.2.1, List.append_nil, Nat.add_zero] at hs
  have hm : (SP ((el l).take K)).1.length = n := by rw [hs]; simp; omega
  split
  · rename_i h0
    exact rpE_zero (by omega)
  · rename_i h0
    rw [rpE_some (V := V) (by rw [hs]; exact hr.2.2) (by omega) (by rw [hs]; show fE zV ((l.take n).map _) = _; rw [fE_el _ hg, hV])]
    rw [hs]
    rfl
/-- What Replay returns. -/
def RpA (r : Option (Vw × Nat)) (w : World) (e : Ending) (w' : World) : Prop := (match r with
  | none => e = .returned (.tuple #[vwV none 0 0 zV, .int .i64 0, .int .i64 9])
  | some x => ∃ a c, e = .returned (.tuple #[vwV a x.1.f.length c x.1, .int .i64 (x.2 : Nat), .int .i64 0]) ∧ Fs w' a x.1.f.length c x.1.f ∧ c ≤ 9223372036854775807) ∧ Below w.heap.size w w'
theorem rpa_form {r : Option (Vw × Nat)} {w : World} {e : Ending} {w' : World} (h : RpA r w e w') : ∃ a c V n k, r.getD (zV, 0) = (V, n) ∧ (k : Int) = (if r.isSome = true then 0 else 9) ∧ e = .returned (.tuple #[vwV a V.f.length c V, .int .i64 (n : Nat), .int .i64 k]) ∧ Fs w' a V.f.length c V.f ∧ c ≤ 9223372036854775807 ∧ Below w.heap.size w w' := by
  cases r with
  | none => exact ⟨none, 0, zV, 0, 9, rfl, rfl, h.1, fs_nil _, by omega, h.2⟩
  | some x =>
    obtain ⟨⟨a, c, h1, h2, h3⟩, h4⟩ := h
    exact ⟨a, c, x.1, x.2, 0, rfl, rfl, h1, h2, h3, h4⟩

end Go.Proofs.YtcahlmneancapaaGreatDoor.Clep
