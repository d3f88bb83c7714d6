/- What edit.Read does when called: what its blocks hold between its steps, what it returns. No conditions. -/
import Derived.Test.YtcahlmneancapabGreatDoorFu19
import Derived.Test.YtcahlmneancapabGreatDoorFu12
import Derived.Test.YtcahlmneancapabGreatDoorFu18
import Derived.Test.YtcahlmneancapabGreatDoorFu16
import Derived.Test.YtcahlmneancapabGreatDoorFu17
namespace Go.Proofs.YtcahlmneancapabGreatDoor.Clep
open Go.RowKit
set_option linter.unusedVariables false
set_option maxRecDepth 10000

theorem uls_place : ∀ (c : Nat) (zs : List Int) (P : Nat) (acc : List Int), P ≤ zs.length → (uls c zs P acc).2.2 = 0 → 0 ≤ (uls c zs P acc).2.1 ∧ (uls c zs P acc).2.1 ≤ (zs.length : Int)
  | 0, zs, P, acc, h, _ => by unfold uls; simp; omega
  | c + 1, zs, P, acc, h, he => by
    unfold uls at he ⊢
    split
    · rename_i ht
      rw [if_pos ht] at he
      have h1 := tk_size (zs.drop P) 0 0 (by omega)
      rw [List.length_drop] at h1
      exact uls_place c zs _ _ (by omega) he
    · rename_i ht
      rw [if_neg ht] at he
      simp
theorem ul_place (zs : List Int) (most : Int) (h : (ul zs most).2.2 = 0) : 0 ≤ (ul zs most).2.1 ∧ (ul zs most).2.1 ≤ (zs.length : Int) := by
  unfold ul at h ⊢
  split
  · rename_i ht
    rw [if_pos ht] at h
    split
    · rename_i hm
      simp
    · rename_i hm
      rw [if_neg hm] at h
      have h1 := tk_size zs 0 0 (by omega)
      exact uls_place _ zs _ _ (by omega) h
  · simp
theorem uls_nums : ∀ (c : Nat) (zs : List Int) (P : Nat) (acc : List Int), ByteL zs → (∀ z ∈ acc, 0 ≤ z ∧ z ≤ 18446744073709551615) → (∀ z ∈ (uls c zs P acc).1, 0 ≤ z ∧ z ≤ 18446744073709551615) ∧ ((uls c zs P acc).2.2 = 0 → (uls c zs P acc).1.length = acc.length + c)
  | 0, zs, P, acc, h, ha => by unfold uls; exact ⟨ha, fun _ => rfl⟩
  | c + 1, zs, P, acc, h, ha => by
    unfold uls
    split
    · have hf := tk_facts (zs.drop P) 0 0 (by omega) (fun z hz => h z (List.mem_of_mem_drop hz)) (by omega) (by simp)
      have := uls_nums c zs (P + (tk (zs.drop P) 0 0).2.1.toNat) (acc ++ [(tk (zs.drop P) 0 0).1]) h (fun z hz => by
        rcases List.mem_append.1 hz with e | e
        · exact ha z e
        · rw [List.mem_singleton.1 e]; exact ⟨hf.1, hf.2.1⟩)
      refine ⟨this.1, fun e => ?_⟩
      rw [this.2 e]
      simp
      omega
    · rename_i ht
      exact ⟨by simp, fun e => absurd e ht⟩
theorem ul_nums (zs : List Int) (most : Int) (h : ByteL zs) (hm : 0 ≤ most) : (∀ z ∈ (ul zs most).1, 0 ≤ z ∧ z ≤ 18446744073709551615) ∧ ((ul zs most).2.2 = 0 → ((ul zs most).1.length : Int) ≤ most) := by
  unfold ul
  split
  · split
    · exact ⟨by simp, fun e => by simp at e⟩
    · rename_i ht hmm
      have h1 := uls_nums (tk zs 0 0).1.toNat zs (tk zs 0 0).2.1.toNat [] h (by simp)
      refine ⟨h1.1, fun e => ?_⟩
      rw [h1.2 e]
      have hf := tk_facts zs 0 0 (by omega) h (by omega) (by simp)
      simp
      omega
  · rename_i ht
    exact ⟨by simp, fun e => absurd e ht⟩
def zE : Ed := ⟨[], [], 0, 0, 0, 0, 0⟩
/-- What Read returns. -/
def RdA (r : Option Ed) (w : World) (e : Ending) (w' : World) : Prop := (match r with
  | none => e = .returned (.tuple #[edV none 0 0 none 0 0 zE, .int .i64 3])
  | some E => ∃ da dc aa ac, e = .returned (.tuple #[edV da E.d.length dc aa E.a.length ac E, .int .i64 0]) ∧ Zs w' da E.d.length dc E.d ∧ Fs w' aa E.a.length ac E.a) ∧ Below w.heap.size w w'
theorem read_results {w : World} {R : Nat} {d v : Value} {A B C D E e : Int} (h : Ek w R #[d, v, .int .i64 A, .int .u64 B, .int .u64 C, .int .u64 D, .int .u64 E] 40) (ts : Array Value) (h2 : ts.getD 2 undef = .pointer (some ⟨R, 0, none⟩)) (h3 : ts.getD 3 undef = .int .i64 e) :
    (results Tryz.f114 ts).run Tryz.prog w = .ok (.tuple #[.agg #[d, v, .int .i64 A, .int .u64 B, .int .u64 C, .int .u64 D, .int .u64 E], .int .i64 e]) w := by
  have c0 := h.cell (o := 0) rfl
  have c1 := h.cell (o := 1) rfl
  have c2 := h.cell (o := 2) rfl
  have c3 := h.cell (o := 3) rfl
  have c4 := h.cell (o := 4) rfl
  have c5 := h.cell (o := 5) rfl
  have c6 := h.cell (o := 6) rfl
  rw [Array.getD_eq_getD_getElem?] at h2 h3
  simp [results, Tryz.results114, go_sem, c0, c1, c2, c3, c4, c5, c6, h2, h3]
/-- A store of seven cells. -/
def set7 (W : World) (R : Nat) (u0 u1 u2 u3 u4 u5 u6 : Value) : World := ((((((W.setCell ⟨R, 0, none⟩ u0).setCell ⟨R, 1, none⟩ u1).setCell ⟨R, 2, none⟩ u2).setCell ⟨R, 3, none⟩ u3).setCell ⟨R, 4, none⟩ u4).setCell ⟨R, 5, none⟩ u5).setCell ⟨R, 6, none⟩ u6
theorem eset7 {W : World} {R : Nat} {a0 a1 a2 a3 a4 a5 a6 : Value} {T : TypeId} (hz : Ek W R #[a0, a1, a2, a3, a4, a5, a6] T) (u0 u1 u2 u3 u4 u5 u6 : Value) : Ek (set7 W R u0 u1 u2 u3 u4 u5 u6) R #[u0, u1, u2, u3, u4, u5, u6] T := by
  have h0 : Ek _ R #[u0, a1, a2, a3, a4, a5, a6] T := hz.set 0 u0
  have h1 : Ek _ R #[u0, u1, a2, a3, a4, a5, a6] T := h0.set 1 u1
  have h2 : Ek _ R #[u0, u1, u2, a3, a4, a5, a6] T := h1.set 2 u2
  have h3 : Ek _ R #[u0, u1, u2, u3, a4, a5, a6] T := h2.set 3 u3
  have h4 : Ek _ R #[u0, u1, u2, u3, u4, a5, a6] T := h3.set 4 u4
  have h5 : Ek _ R #[u0, u1, u2, u3, u4, u5, a6] T := h4.set 5 u5
  exact h5.set 6 u6
theorem gset7 (W : World) (R : Nat) (u0 u1 u2 u3 u4 u5 u6 : Value) : W.grownBy (set7 W R u0 u1 u2 u3 u4 u5 u6) (some R) :=
  egrow (k := 6) (u := u6) (egrow (k := 5) (u := u5) (egrow (k := 4) (u := u4) (egrow (k := 3) (u := u3) (egrow (k := 2) (u := u2) (egrow (k := 1) (u := u1) (fgb_set W ⟨R, 0, none⟩ u0))))))
def zE7 : Array Value := #[.slice none 0 0, .slice none 0 0, .int .i64 0, .int .u64 0, .int .u64 0, .int .u64 0, .int .u64 0]
/-- Between the steps of Read. -/
structure RS (w : World) (R Q : Nat) (dd : Option Addr) (dn dc : Nat) (ds : List Int) (W : World) (s : List Int × Bool) (cs : Array Value) (fv : Value) (fl : List Fi) : Prop where
  rd : Rdr W w.heap.size R s
  q : Ek W Q cs 40
  own : OwnF W (Q + 1) fv fl
  zs : Zs W dd dn dc ds
  zb : ∀ a, dd = some a → R < a.block ∧ a.block < Q
  z : Ek W w.heap.size zE7 40
  bel : Below w.heap.size w W
  sz : Q + 1 ≤ W.heap.size
  rq : w.heap.size < R ∧ R < Q
theorem Zs.gb {w w' : World} {row : Option Nat} {ao : Option Addr} {n c : Nat} {l : List Int} (h : Zs w ao n c l) (hg : w.grownBy w' row) (hne : ∀ a, ao = some a → some a.block ≠ row) : Zs w' ao n c l := by
  refine ⟨h.1, h.2.1, h.2.2.1, fun h0 => ?_⟩
  obtain ⟨b, off, e, hc⟩ := h.2.2.2 h0
  refine ⟨b, off, e, fun i z hz => ?_⟩
  have := hc i z hz
  exact gb_cells hg (World.block_lt_of_cell? w _ this) (by have := hne _ e; exact this) _ _ this
section
variable {w : World} {R Q : Nat} {dd : Option Addr} {dn dc : Nat} {ds : List Int} {W W' : World} {s s' : List Int × Bool} {cs : Array Value} {fv fv' : Value} {fl fl' : List Fi}
theorem RS.drew (h : RS w R Q dd dn dc ds W s cs fv fl) : RS w R Q dd dn dc ds W.drew s cs fv fl := ⟨h.rd.keep (Below.refl _ W).drew, h.q.drew, h.own.drew, h.zs.below (Below.refl _ W).drew (Nat.le_refl _), h.zb, h.z.drew, h.bel.drew, h.sz, h.rq⟩
theorem RS.take (h : RS w R Q dd dn dc ds W s cs fv fl) (hg : W.grownBy W' (some R)) (hr : Rdr W' w.heap.size R s') : RS w R Q dd dn dc ds W' s' cs fv fl := by
  have hrq := h.rq
  refine ⟨hr, h.q.gb hg (fun e => ?_), ownF_grown h.own hg (fun k hk => ?_), h.zs.gb hg (fun a ha e => ?_), h.zb, h.z.gb hg (fun e => ?_), h.bel.grown hg h.bel.size (fun k hk => ?_), Nat.le_trans h.sz hg.size, hrq⟩
  · have : Q = R := Option.some.inj e; omega
  · have : R = k := Option.some.inj hk; omega
  · have h1 : a.block = R := Option.some.inj e; have := h.zb a ha; omega
  · have : w.heap.size = R := Option.some.inj e; omega
  · have : R = k := Option.some.inj hk; omega
theorem RS.setq (h : RS w R Q dd dn dc ds W s cs fv fl) (k : Nat) (u : Value) : RS w R Q dd dn dc ds (W.setCell ⟨Q, k, none⟩ u) s (cs.setIfInBounds k u) fv fl := by
  have hrq := h.rq
  have hg := fgb_set W ⟨Q, k, none⟩ u
  refine ⟨h.rd.gb hg (fun e => ?_) (fun k hk => ?_), h.q.set k u, ownF_grown h.own hg (fun k hk => ?_), h.zs.gb hg (fun a ha e => ?_), h.zb, h.z.gb hg (fun e => ?_), h.bel.grown hg h.bel.size (fun k hk => ?_), Nat.le_trans h.sz hg.size, hrq⟩
  · have : R = Q := Option.some.inj e; omega
  · have : Q = k := Option.some.inj hk; omega
  · have : Q = k := Option.some.inj hk; omega
  · have h1 : a.block = Q := Option.some.inj e; have := h.zb a ha; omega
  · have : w.heap.size = Q := Option.some.inj e; omega
  · have : Q = k := Option.some.inj hk; omega
theorem RS.keep (h : RS w R Q dd dn dc ds W s cs fv fl) (hb : Below W.heap.size W W') : RS w R Q dd dn dc ds W' s cs fv fl :=
  ⟨h.rd.keep hb, h.q.below hb h.q.lt, ownF_keep h.own hb, h.zs.below hb (Nat.le_refl _), h.zb, h.z.below hb h.z.lt, h.bel.trans (hb.mono h.bel.size), Nat.le_trans h.sz hb.size, h.rq⟩
theorem RS.row (h : RS w R Q dd dn dc ds W s cs fv fl) {row : Option Nat} (hg : W.grownBy W' row) (hk : ∀ k, row = some k → Q + 1 ≤ k) (ho : OwnF W' (Q + 1) fv' fl') : RS w R Q dd dn dc ds W' s cs fv' fl' := by
  have hrq := h.rq
  refine ⟨h.rd.gb hg (fun e => ?_) (fun k e => ?_), h.q.gb hg (fun e => ?_), ho, h.zs.gb hg (fun a ha e => ?_), h.zb, h.z.gb hg (fun e => ?_), h.bel.grown hg h.bel.size (fun k e => ?_), Nat.le_trans h.sz hg.size, hrq⟩
  · have := hk _ e.symm; omega
  · have := hk _ e; omega
  · have := hk _ e.symm; omega
  · have h1 := h.zb a ha; have := hk _ e.symm; omega
  · have := hk _ e.symm; omega
  · have := hk _ e; omega
end
theorem sm_range {z : Int} (h : 0 ≤ z) : -1 ≤ sm z ∧ sm z ≤ 1073741824 := by unfold sm; split <;> omega

end Go.Proofs.YtcahlmneancapabGreatDoor.Clep

/- What the document's own Unlist (package clepsydraref1) does when called: any text up to 2^40, any bound. -/
namespace Go.Proofs.YtcahlmneancapabGreatDoor.Clep
open Go.RowKit
set_option linter.unusedVariables false
set_option maxRecDepth 10000

theorem sz_drop {s : ByteArray} {zs : List Int} (h : Sz s zs) (P : Nat) (hP : P ≤ s.size) : Sz (s.extract P s.size) (zs.drop P) := by
  refine ⟨by rw [ByteArray.size_extract, List.length_drop, h.1]; omega, fun k hk => ?_⟩
  have hk2 : P + k < s.size := by rw [ByteArray.size_extract] at hk; omega
  have := h.2 (P + k) hk2
  rw [ByteArray.getElem_extract]
  rw [this]
  simp [List.getD]

end Go.Proofs.YtcahlmneancapabGreatDoor.Clep

/- What the document's own ReadEdit does when called: what its blocks hold between its steps; when the bytes are no Edit. No conditions. -/
namespace Go.Proofs.YtcahlmneancapabGreatDoor.Clep
open Go.RowKit
set_option linter.unusedVariables false
set_option maxRecDepth 10000

theorem red_none {X : List Int} (h : okR X = true → mayB (rawE X) = true → False) : red X = none := by
  unfold red
  rw [if_neg]
  intro hh
  rw [Bool.and_eq_true] at hh
  exact h hh.1 hh.2
theorem red_drop {X : List Int} (z : Int) (hz : z ∈ (ul X 40).1) (hb : 1073741824 < z) : red X = none := red_none fun _ hm => by
  have := ((emay_parts ((mayB_iff _).1 hm)).2.1 z hz).2
  omega
theorem okR_parts {X : List Int} (h : okR X = true) : (ul X 40).2.2 = 0 ∧ cX X ≤ 40 ∧ (stN (s1X X) (2 * (cX X).toNat + 5)).2 = false ∧ (stN (s1X X) (2 * (cX X).toNat + 5)).1.length = 0 := by
  unfold okR at h
  simp only [Bool.and_eq_true, decide_eq_true_eq, Bool.not_eq_true'] at h
  exact ⟨h.1, h.2.1, h.2.2.1, h.2.2.2⟩
theorem red_head {X : List Int} (h : (s1X X).2 = true) : red X = none := red_none fun ho _ => by
  have h1 := stN_bad (s1X X) 0 (2 * (cX X).toNat + 5) h
  rw [Nat.zero_add, (okR_parts ho).2.2.1] at h1
  cases h1
theorem red_count {X : List Int} (h : 40 < cX X) : red X = none := red_none fun ho _ => by
  have := (okR_parts ho).2.1
  omega
theorem red_stop {X : List Int} (j : Nat) (hj : j ≤ 2 * (cX X).toNat + 5) (h : (stN (s1X X) j).2 = true) : red X = none := red_none fun ho _ => by
  have h1 := stN_bad (s1X X) j (2 * (cX X).toNat + 5 - j) h
  rw [show j + (2 * (cX X).toNat + 5 - j) = 2 * (cX X).toNat + 5 from by omega, (okR_parts ho).2.2.1] at h1
  cases h1
theorem red_end {X : List Int} (h : 0 < (stN (s1X X) (2 * (cX X).toNat + 5)).1.length) : red X = none := red_none fun ho _ => by
  have := (okR_parts ho).2.2.2
  omega
theorem red_great {X : List Int} (j : Nat) (hj : j < 2 * (cX X).toNat + 5) (h : 281474976710656 < nr (s1X X) j) : red X = none := red_none fun _ hm => by
  have hp := emay_parts ((mayB_iff _).1 hm)
  unfold rawE at hp
  simp only at hp
  obtain ⟨_, _, hf, hl, h1, h2, h3, h4⟩ := hp
  rcases Nat.lt_or_ge j (2 * (cX X).toNat) with hlt | hge
  · have hmem : (⟨nr (s1X X) (2 * (j / 2)), nr (s1X X) (2 * (j / 2) + 1)⟩ : Fi) ∈ fX X (cX X).toNat := List.mem_map.2 ⟨j / 2, List.mem_range.2 (by omega), rfl⟩
    have hq := hf _ hmem
    simp only at hq
    rcases Nat.mod_two_eq_zero_or_one j with hm2 | hm2
    · rw [show 2 * (j / 2) = j from by omega] at hq
      omega
    · rw [show 2 * (j / 2) + 1 = j from by omega] at hq
      omega
  · obtain ⟨t, rfl⟩ : ∃ t, j = 2 * (cX X).toNat + t := ⟨j - 2 * (cX X).toNat, by omega⟩
    have ht : t = 0 ∨ t = 1 ∨ t = 2 ∨ t = 3 ∨ t = 4 := by omega
    generalize nr (s1X X) = N at *
    generalize 2 * (cX X).toNat = M at *
    rcases ht with rfl | rfl | rfl | rfl | rfl
    · rw [Nat.add_zero] at h; omega
    · omega
    · omega
    · omega
    · omega
/-- Between the steps of the document's ReadEdit. -/
structure RT (w : World) (Q : Nat) (W : World) (cs : Array Value) : Prop where
  z : Ek W w.heap.size zE7 40
  q : Ek W Q cs 40
  bel : Below w.heap.size w W
  lt : w.heap.size < Q
section
variable {w W W' : World} {Q : Nat} {cs : Array Value}
theorem RT.drew (h : RT w Q W cs) : RT w Q W.drew cs := ⟨h.z.drew, h.q.drew, h.bel.drew, h.lt⟩
theorem RT.keep (h : RT w Q W cs) (hb : Below W.heap.size W W') : RT w Q W' cs := ⟨h.z.below hb h.z.lt, h.q.below hb h.q.lt, h.bel.trans (hb.mono h.bel.size), h.lt⟩
theorem RT.row (h : RT w Q W cs) {row : Option Nat} (hg : W.grownBy W' row) (hk : ∀ k, row = some k → Q + 1 ≤ k) : RT w Q W' cs := by
  have hl := h.lt
  refine ⟨h.z.gb hg (fun e => ?_), h.q.gb hg (fun e => ?_), h.bel.grown hg h.bel.size (fun k e => ?_), hl⟩
  · have := hk _ e.symm; omega
  · have := hk _ e.symm; omega
  · have := hk _ e; omega
theorem RT.setq (h : RT w Q W cs) (k : Nat) (u : Value) : RT w Q (W.setCell ⟨Q, k, none⟩ u) (cs.setIfInBounds k u) := by
  have hl := h.lt
  have hg := fgb_set W ⟨Q, k, none⟩ u
  refine ⟨h.z.gb hg (fun e => ?_), h.q.set k u, h.bel.grown hg h.bel.size (fun k e => ?_), hl⟩
  · have : w.heap.size = Q := Option.some.inj e; omega
  · have : Q = k := Option.some.inj e; omega
theorem RT.sz (h : RT w Q W cs) : Q + 1 ≤ W.heap.size := h.q.lt
end
theorem Us.gb {w w' : World} {row : Option Nat} {ao : Option Addr} {n c : Nat} {l : List Int} (h : Us w ao n c l) (hg : w.grownBy w' row) (hne : ∀ a, ao = some a → some a.block ≠ row) : Us w' ao n c l := by
  refine ⟨h.1, h.2.1, h.2.2.1, fun h0 => ?_⟩
  obtain ⟨b, off, e, hc⟩ := h.2.2.2 h0
  refine ⟨b, off, e, fun i hi => ?_⟩
  have := hc i hi
  exact gb_cells hg (World.block_lt_of_cell? w _ this) (by have := hne _ e; exact this) _ _ this
theorem ownZ_grown {w w' : World} {B : Nat} {v : Value} {l : List Int} {row : Option Nat} (h : OwnZ w B v l) (hg : w.grownBy w' row) (hne : ∀ k, row = some k → k < B) : OwnZ w' B v l := by
  refine World.ownsRow.kept h hg ?_
  cases hv : v.ownBlock with
  | none => exact .inl rfl
  | some k =>
    refine .inr (fun e => ?_)
    have h1 := World.ownsRow.lt h k hv
    have := hne k e.symm
    omega
theorem ownU_grown {w w' : World} {B : Nat} {v : Value} {l : List Int} {row : Option Nat} (h : OwnU w B v l) (hg : w.grownBy w' row) (hne : ∀ k, row = some k → k < B) : OwnU w' B v l := by
  refine World.ownsRow.kept h hg ?_
  cases hv : v.ownBlock with
  | none => exact .inl rfl
  | some k =>
    refine .inr (fun e => ?_)
    have h1 := World.ownsRow.lt h k hv
    have := hne k e.symm
    omega
theorem step_append_z {w : World} {ops : Array Oper} {o : Oper} {a : Act} {K : Act → World → Prop} {Q : Exit → Act → World → Prop} {E : Prop} (hgd : o.guard = none) (s x : Operand)
    (ho : o.op = .call { callee := .builtin .append, args := #[s, x], argTypes := #[38, 38] })
    (base : Nat) (v : Value) (ns : List Int) (hs : a.eval s = v) (hown : OwnZ w base v ns) (p : Nat) (z : Int) (hx : a.eval x = .slice (some ⟨p, 0, none⟩) 1 1) (hp : Ek w p #[.int .i64 z] 3)
    (hlen : ns.length ≤ 100000) (hbase : base ≤ w.heap.size)
    (h : ∀ v' w', OwnZ w' base v' (ns ++ [z]) → w.grownBy w' v.ownBlock → (∀ k, v.ownBlock = some k → base ≤ k) → K (a.put o.dst v') w') :
    if Region.wanted o (yielded ops a.tmps) = true then Oper.wp Tryz.prog o a w K Q else E := by
  have hw : Region.wanted o (yielded ops a.tmps) = true := by simp [Region.wanted, hgd]
  rw [if_pos hw]
  obtain ⟨i0, hi, hz0, hz1, hz2⟩ := info_parts info_int
  refine wp_append_own _ s x 38 ho base 3 i0 (.int .i64 0) 1 8 Tryz.underlying38 hi hz0 hz1 hz2 rfl (by decide) v ns.length (iv9 ns) hs hown ⟨p, 0, none⟩ 1 1 [.int .i64 z] hx rfl ?_ ?_ (by unfold maxLen; omega) (by omega) hbase ?_
  · intro j u hu
    match j, hu with
    | 0, hu =>
      simp at hu
      subst hu
      exact hp.cell rfl
    | k + 1, hu => simp at hu
  · intro u hu
    simp at hu
    subst hu
    rfl
  · intro v' w' h1 h2 _
    refine h v' w' ?_ h2 (fun k hk => (World.ownsRow.lt hown k hk).1)
    unfold OwnZ iv9
    simpa [iv9] using h1
/-- Between the rounds of the last loop of the document's ReadEdit. -/
structure RV (w : World) (Q B : Nat) (dd : Option Addr) (dn dc : Nat) (ds : List Int) (la : Option Addr) (ln lc : Nat) (ls : List Int) (W : World) (cs : Array Value) (fv : Value) (fl : List Fi) : Prop where
  rt : RT w Q W cs
  own : OwnF W B fv fl
  d : Zs W dd dn dc ds
  l : Us W la ln lc ls
  db : ∀ a, dd = some a → Q < a.block ∧ a.block < B
  lb : ∀ a, la = some a → Q < a.block ∧ a.block < B
  sz : B ≤ W.heap.size
  qb : Q < B
section
variable {w W W' : World} {Q B : Nat} {dd : Option Addr} {dn dc : Nat} {ds : List Int} {la : Option Addr} {ln lc : Nat} {ls : List Int} {cs : Array Value} {fv fv' : Value} {fl fl' : List Fi}
theorem RV.keep (h : RV w Q B dd dn dc ds la ln lc ls W cs fv fl) (hb : Below W.heap.size W W') : RV w Q B dd dn dc ds la ln lc ls W' cs fv fl :=
  ⟨h.rt.keep hb, ownF_keep h.own hb, h.d.below hb (Nat.le_refl _), h.l.below hb (Nat.le_refl _), h.db, h.lb, Nat.le_trans h.sz hb.size, h.qb⟩
theorem RV.drew (h : RV w Q B dd dn dc ds la ln lc ls W cs fv fl) : RV w Q B dd dn dc ds la ln lc ls W.drew cs fv fl := h.keep (Below.refl _ W).drew
theorem RV.row (h : RV w Q B dd dn dc ds la ln lc ls W cs fv fl) {row : Option Nat} (hg : W.grownBy W' row) (hk : ∀ k, row = some k → B ≤ k) (ho : OwnF W' B fv' fl') : RV w Q B dd dn dc ds la ln lc ls W' cs fv' fl' := by
  have hq := h.qb
  refine ⟨h.rt.row hg (fun k e => by have := hk k e; omega), ho, h.d.gb hg (fun a ha e => ?_), h.l.gb hg (fun a ha e => ?_), h.db, h.lb, Nat.le_trans h.sz hg.size, hq⟩
  · have := h.db a ha; have := hk _ e.symm; omega
  · have := h.lb a ha; have := hk _ e.symm; omega
theorem RV.setq (h : RV w Q B dd dn dc ds la ln lc ls W cs fv fl) (k : Nat) (u : Value) : RV w Q B dd dn dc ds la ln lc ls (W.setCell ⟨Q, k, none⟩ u) (cs.setIfInBounds k u) fv fl := by
  have hq := h.qb
  have hg := fgb_set W ⟨Q, k, none⟩ u
  refine ⟨h.rt.setq k u, ownF_grown h.own hg (fun k e => ?_), h.d.gb hg (fun a ha e => ?_), h.l.gb hg (fun a ha e => ?_), h.db, h.lb, Nat.le_trans h.sz hg.size, hq⟩
  · have : Q = k := Option.some.inj e; omega
  · have := h.db a ha; have : a.block = Q := Option.some.inj e; omega
  · have := h.lb a ha; have : a.block = Q := Option.some.inj e; omega
end
theorem map_range_get (f : Nat → Int) (n i : Nat) (h : i < n) : ((List.range n).map f).getD i 0 = f i := by
  simp [List.getD, h]

end Go.Proofs.YtcahlmneancapabGreatDoor.Clep

/- What a row of bytes says, frame behind frame, up to the first that is none. -/
namespace Go.Proofs.YtcahlmneancapabGreatDoor.Clep
open Go.RowKit
set_option linter.unusedVariables false
set_option maxRecDepth 10000

/-- Frames from the front on, at most f of them: kinds and bodies, where the last ends, why. -/
def sp : Nat → List Int → List (Int × List Int) × Nat × Int
  | 0, _ => ([], 0, 0)
  | f + 1, X => if X = [] then ([], 0, 0) else if ce X = 0 then
      ((kd X, bo X) :: (sp f (X.drop ((ln X).toNat + 12))).1, (ln X).toNat + 12 + (sp f (X.drop ((ln X).toNat + 12))).2.1, (sp f (X.drop ((ln X).toNat + 12))).2.2)
    else ([], 0, ce X)
def SP (X : List Int) : List (Int × List Int) × Nat × Int := sp X.length X

theorem sp_succ (f : Nat) (X : List Int) : sp (f + 1) X = if X = [] then ([], 0, 0) else if ce X = 0 then
      ((kd X, bo X) :: (sp f (X.drop ((ln X).toNat + 12))).1, (ln X).toNat + 12 + (sp f (X.drop ((ln X).toNat + 12))).2.1, (sp f (X.drop ((ln X).toNat + 12))).2.2)
    else ([], 0, ce X) := rfl
theorem sp_fuel : ∀ (f g : Nat) (X : List Int), X.length ≤ f → X.length ≤ g → sp f X = sp g X
  | 0, 0, _, _, _ => rfl
  | 0, g + 1, X, hf, _ => by
    have : X = [] := List.eq_nil_of_length_eq_zero (by omega)
    subst this; simp [sp]
  | f + 1, 0, X, _, hg => by
    have : X = [] := List.eq_nil_of_length_eq_zero (by omega)
    subst this; simp [sp]
  | f + 1, g + 1, X, hf, hg => by
    have ih : X ≠ [] → sp f (X.drop ((ln X).toNat + 12)) = sp g (X.drop ((ln X).toNat + 12)) := fun hx => by
      have : 0 < X.length := List.length_pos_iff.2 hx
      exact sp_fuel f g _ (by rw [List.length_drop]; omega) (by rw [List.length_drop]; omega)
    rw [sp_succ, sp_succ]
    split
    · rfl
    · rename_i hx
      rw [ih hx]
theorem SP_nil : SP [] = ([], 0, 0) := rfl
theorem SP_bad (X : List Int) (hx : X ≠ []) (hc : ce X ≠ 0) : SP X = ([], 0, ce X) := by
  unfold SP
  obtain ⟨f, hf⟩ : ∃ f, X.length = f + 1 := ⟨X.length - 1, by have := List.length_pos_iff.2 hx; omega⟩
  rw [hf, sp_succ, if_neg hx, if_neg hc]
theorem SP_good (X : List Int) (hc : ce X = 0) : SP X = ((kd X, bo X) :: (SP (X.drop ((ln X).toNat + 12))).1, (ln X).toNat + 12 + (SP (X.drop ((ln X).toNat + 12))).2.1, (SP (X.drop ((ln X).toNat + 12))).2.2) := by
  have hk := ce_ok X hc
  have hx : X ≠ [] := fun h => by subst h; simp at hk
  obtain ⟨f, hf⟩ : ∃ f, X.length = f + 1 := ⟨X.length - 1, by omega⟩
  have e : SP (X.drop ((ln X).toNat + 12)) = sp f (X.drop ((ln X).toNat + 12)) := sp_fuel _ f _ (Nat.le_refl _) (by rw [List.length_drop]; omega)
  rw [e]
  unfold SP
  rw [hf, sp_succ, if_neg hx, if_pos hc]
theorem SP_front (k : Int) (ys r : List Int) (hk : 1 ≤ k) (hk2 : k ≤ 100) (hn : ys.length ≤ 60000) (hy : ByteL ys) :
    SP (fr k ys ++ r) = ((k, ys) :: (SP r).1, ys.length + 12 + (SP r).2.1, (SP r).2.2) := by
  rw [SP_good _ (fr_ce k ys r hk hk2 hn hy), fr_kd, fr_bo k ys r hn, fr_ln k ys r hn, Int.toNat_natCast, drop_app (fr k ys) r _ (fr_len k ys)]

/-- Behind j frames the place is P. -/
def At (zs : List Int) (j P : Nat) : Prop := P ≤ zs.length ∧ j ≤ P ∧ (SP zs).1.drop j = (SP (zs.drop P)).1 ∧ j ≤ (SP zs).1.length ∧ (SP zs).2.1 = P + (SP (zs.drop P)).2.1 ∧ (SP zs).2.2 = (SP (zs.drop P)).2.2
theorem At.start (zs : List Int) : At zs 0 0 := ⟨by omega, by omega, by simp, by omega, by simp, by simp⟩
theorem At.end {zs : List Int} {j P : Nat} (h : At zs j P) (hP : P = zs.length) : (SP zs).1.length = j ∧ (SP zs).2.1 = P ∧ (SP zs).2.2 = 0 := by
  obtain ⟨_, _, h1, h2, h3, h4⟩ := h
  rw [hP, List.drop_length, SP_nil] at h1 h3 h4
  have := List.drop_eq_nil_iff.1 h1
  exact ⟨by omega, by rw [h3, hP]; rfl, h4⟩
theorem At.stop {zs : List Int} {j P : Nat} (h : At zs j P) (hP : P < zs.length) (hc : ce (zs.drop P) ≠ 0) : (SP zs).1.length = j ∧ (SP zs).2.1 = P ∧ (SP zs).2.2 = ce (zs.drop P) := by
  obtain ⟨_, _, h1, h2, h3, h4⟩ := h
  have hx : zs.drop P ≠ [] := fun h => by have := List.drop_eq_nil_iff.1 h; omega
  rw [SP_bad _ hx hc] at h1 h3 h4
  have := List.drop_eq_nil_iff.1 h1
  exact ⟨by omega, by rw [h3]; rfl, h4⟩
theorem At.step {zs : List Int} {j P : Nat} (h : At zs j P) (hc : ce (zs.drop P) = 0) : At zs (j + 1) (P + ((ln (zs.drop P)).toNat + 12)) ∧ j < (SP zs).1.length ∧ (SP zs).1.getD j (0, []) = (kd (zs.drop P), bo (zs.drop P)) := by
  obtain ⟨hP, hj, h1, h2, h3, h4⟩ := h
  have hk := ce_ok _ hc
  rw [List.length_drop] at hk
  rw [SP_good _ hc, List.drop_drop] at h1 h3 h4
  have hlt : j < (SP zs).1.length := by
    rcases Nat.lt_or_ge j (SP zs).1.length with h | h
    · exact h
    · rw [List.drop_eq_nil_of_le h] at h1; cases h1
  rw [List.drop_eq_getElem_cons hlt] at h1
  injection h1 with h5 h6
  refine ⟨⟨by omega, by omega, h6, by omega, by rw [h3]; simp only []; omega, h4⟩, hlt, ?_⟩
  rw [List.getD, List.getElem?_eq_getElem hlt, Option.getD_some, h5]
theorem At.more {zs : List Int} {j P : Nat} (h : At zs j P) (hj : j < (SP zs).1.length) : ce (zs.drop P) = 0 := by
  rcases Classical.em (ce (zs.drop P) = 0) with h0 | h0
  · exact h0
  · have hP := h.1
    rcases Nat.lt_or_ge P zs.length with hl | hl
    · have := (h.stop hl h0).1; omega
    · have := (h.end (by omega)).1; omega

end Go.Proofs.YtcahlmneancapabGreatDoor.Clep

/- What the document's own FrameOk and Frame (package clepsydraref1) do when called: for any kind, any text. No conditions but the kinds' own bounds. -/
namespace Go.Proofs.YtcahlmneancapabGreatDoor.Clep
open Go.RowKit
set_option linter.unusedVariables false
set_option maxRecDepth 10000

/-- What FrameOk answers. -/
def fk (k n : Int) : Int := if k < 1 ∨ 100 < k then 1 else if 60000 < n then 2 else 0
end Go.Proofs.YtcahlmneancapabGreatDoor.Clep
