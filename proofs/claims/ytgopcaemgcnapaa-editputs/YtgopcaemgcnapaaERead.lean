/- What edit.Read does when called: what its blocks hold between its steps, what it returns. No conditions. -/
import Derived.Test.YtgopcaemgcnapaaERdr
import Derived.Test.YtgopcaemgcnapaaEWhole
namespace Go.Proofs.Ytgopcaemgcnapaa.Clep
open Go.RowKit
set_option linter.unusedVariables false
set_option maxRecDepth 10000

theorem uls_place : ∀ (c : Nat) (zs : List Int) (P : Nat) (acc : List Int), P ≤ zs.length → (uls c zs P acc).2.2 = 0 → 0 ≤ (uls c zs P acc).2.1 ∧ (uls c zs P acc).2.1 ≤ (zs.length : Int)
  | 0, zs, P, acc, h, _ => by unfold uls; simp; omega
  | c + 1, zs, P, acc, h, he => by
    unfold uls at he ⊢
    split
    · rename_i ht
      rw [if_pos ht] at he
      have h1 := tk_size (zs.drop P) 0 0 (by omega)
      rw [List.length_drop] at h1
      exact uls_place c zs _ _ (by omega) he
    · rename_i ht
      rw [if_neg ht] at he
      simp
theorem ul_place (zs : List Int) (most : Int) (h : (ul zs most).2.2 = 0) : 0 ≤ (ul zs most).2.1 ∧ (ul zs most).2.1 ≤ (zs.length : Int) := by
  unfold ul at h ⊢
  split
  · rename_i ht
    rw [if_pos ht] at h
    split
    · rename_i hm
      simp
    · rename_i hm
      rw [if_neg hm] at h
      have h1 := tk_size zs 0 0 (by omega)
      exact uls_place _ zs _ _ (by omega) h
  · simp
theorem uls_nums : ∀ (c : Nat) (zs : List Int) (P : Nat) (acc : List Int), ByteL zs → (∀ z ∈ acc, 0 ≤ z ∧ z ≤ 18446744073709551615) → (∀ z ∈ (uls c zs P acc).1, 0 ≤ z ∧ z ≤ 18446744073709551615) ∧ ((uls c zs P acc).2.2 = 0 → (uls c zs P acc).1.length = acc.length + c)
  | 0, zs, P, acc, h, ha => by unfold uls; exact ⟨ha, fun _ => rfl⟩
  | c + 1, zs, P, acc, h, ha => by
    unfold uls
    split
    · have hf := tk_facts (zs.drop P) 0 0 (by omega) (fun z hz => h z (List.mem_of_mem_drop hz)) (by omega) (by simp)
      have := uls_nums c zs (P + (tk (zs.drop P) 0 0).2.1.toNat) (acc ++ [(tk (zs.drop P) 0 0).1]) h (fun z hz => by
        rcases List.mem_append.1 hz with e | e
        · exact ha z e
        · rw [List.mem_singleton.1 e]; exact ⟨hf.1, hf.2.1⟩)
      refine ⟨this.1, fun e => ?_⟩
      rw [this.2 e]
      simp
      omega
    · rename_i ht
      exact ⟨by simp, fun e => absurd e ht⟩
theorem ul_nums (zs : List Int) (most : Int) (h : ByteL zs) (hm : 0 ≤ most) : (∀ z ∈ (ul zs most).1, 0 ≤ z ∧ z ≤ 18446744073709551615) ∧ ((ul zs most).2.2 = 0 → ((ul zs most).1.length : Int) ≤ most) := by
  unfold ul
  split
  · split
    · exact ⟨by simp, fun e => by simp at e⟩
    · rename_i ht hmm
      have h1 := uls_nums (tk zs 0 0).1.toNat zs (tk zs 0 0).2.1.toNat [] h (by simp)
      refine ⟨h1.1, fun e => ?_⟩
      rw [h1.2 e]
      have hf := tk_facts zs 0 0 (by omega) h (by omega) (by simp)
      simp
      omega
  · rename_i ht
    exact ⟨by simp, fun e => absurd e ht⟩
def zE : Ed := ⟨[], [], 0, 0, 0, 0, 0⟩
/-- What Read returns. -/
def RdA (r : Option Ed) (w : World) (e : Ending) (w' : World) : Prop := (match r with
  | none => e = .returned (.tuple #[edV none 0 0 none 0 0 zE, .int .i64 3])
  | some E => ∃ da dc aa ac, e = .returned (.tuple #[edV da E.d.length dc aa E.a.length ac E, .int .i64 0]) ∧ Zs w' da E.d.length dc E.d ∧ Fs w' aa E.a.length ac E.a) ∧ Below w.heap.size w w'
theorem read_results {w : World} {R : Nat} {d v : Value} {A B C D E e : Int} (h : Ek w R #[d, v, .int .i64 A, .int .u64 B, .int .u64 C, .int .u64 D, .int .u64 E] 31) (ts : Array Value) (h2 : ts.getD 2 undef = .pointer (some ⟨R, 0, none⟩)) (h3 : ts.getD 3 undef = .int .i64 e) :
    (results Try.f17 ts).run Try.prog w = .ok (.tuple #[.agg #[d, v, .int .i64 A, .int .u64 B, .int .u64 C, .int .u64 D, .int .u64 E], .int .i64 e]) w := by
  have c0 := h.cell (o := 0) rfl
  have c1 := h.cell (o := 1) rfl
  have c2 := h.cell (o := 2) rfl
  have c3 := h.cell (o := 3) rfl
  have c4 := h.cell (o := 4) rfl
  have c5 := h.cell (o := 5) rfl
  have c6 := h.cell (o := 6) rfl
  rw [Array.getD_eq_getD_getElem?] at h2 h3
  simp [results, Try.results17, go_sem, c0, c1, c2, c3, c4, c5, c6, h2, h3]
/-- A store of seven cells. -/
def set7 (W : World) (R : Nat) (u0 u1 u2 u3 u4 u5 u6 : Value) : World := ((((((W.setCell ⟨R, 0, none⟩ u0).setCell ⟨R, 1, none⟩ u1).setCell ⟨R, 2, none⟩ u2).setCell ⟨R, 3, none⟩ u3).setCell ⟨R, 4, none⟩ u4).setCell ⟨R, 5, none⟩ u5).setCell ⟨R, 6, none⟩ u6
theorem eset7 {W : World} {R : Nat} {a0 a1 a2 a3 a4 a5 a6 : Value} {T : TypeId} (hz : Ek W R #[a0, a1, a2, a3, a4, a5, a6] T) (u0 u1 u2 u3 u4 u5 u6 : Value) : Ek (set7 W R u0 u1 u2 u3 u4 u5 u6) R #[u0, u1, u2, u3, u4, u5, u6] T := by
  have h0 : Ek _ R #[u0, a1, a2, a3, a4, a5, a6] T := hz.set 0 u0
  have h1 : Ek _ R #[u0, u1, a2, a3, a4, a5, a6] T := h0.set 1 u1
  have h2 : Ek _ R #[u0, u1, u2, a3, a4, a5, a6] T := h1.set 2 u2
  have h3 : Ek _ R #[u0, u1, u2, u3, a4, a5, a6] T := h2.set 3 u3
  have h4 : Ek _ R #[u0, u1, u2, u3, u4, a5, a6] T := h3.set 4 u4
  have h5 : Ek _ R #[u0, u1, u2, u3, u4, u5, a6] T := h4.set 5 u5
  exact h5.set 6 u6
theorem gset7 (W : World) (R : Nat) (u0 u1 u2 u3 u4 u5 u6 : Value) : W.grownBy (set7 W R u0 u1 u2 u3 u4 u5 u6) (some R) :=
  egrow (k := 6) (u := u6) (egrow (k := 5) (u := u5) (egrow (k := 4) (u := u4) (egrow (k := 3) (u := u3) (egrow (k := 2) (u := u2) (egrow (k := 1) (u := u1) (fgb_set W ⟨R, 0, none⟩ u0))))))
def zE7 : Array Value := #[.slice none 0 0, .slice none 0 0, .int .i64 0, .int .u64 0, .int .u64 0, .int .u64 0, .int .u64 0]
/-- Between the steps of Read. -/
structure RS (w : World) (R Q : Nat) (dd : Option Addr) (dn dc : Nat) (ds : List Int) (W : World) (s : List Int × Bool) (cs : Array Value) (fv : Value) (fl : List Fi) : Prop where
  rd : Rdr W w.heap.size R s
  q : Ek W Q cs 31
  own : OwnF W (Q + 1) fv fl
  zs : Zs W dd dn dc ds
  zb : ∀ a, dd = some a → R < a.block ∧ a.block < Q
  z : Ek W w.heap.size zE7 31
  bel : Below w.heap.size w W
  sz : Q + 1 ≤ W.heap.size
  rq : w.heap.size < R ∧ R < Q
theorem Zs.gb {w w' : World} {row : Option Nat} {ao : Option Addr} {n c : Nat} {l : List Int} (h : Zs w ao n c l) (hg : w.grownBy w' row) (hne : ∀ a, ao = some a → some a.block ≠ row) : Zs w' ao n c l := by
  refine ⟨h.1, h.2.1, h.2.2.1, fun h0 => ?_⟩
  obtain ⟨b, off, e, hc⟩ := h.2.2.2 h0
  refine ⟨b, off, e, fun i z hz => ?_⟩
  have := hc i z hz
  exact gb_cells hg (World.block_lt_of_cell? w _ this) (by have := hne _ e; exact this) _ _ this
section
variable {w : World} {R Q : Nat} {dd : Option Addr} {dn dc : Nat} {ds : List Int} {W W' : World} {s s' : List Int × Bool} {cs : Array Value} {fv fv' : Value} {fl fl' : List Fi}
theorem RS.drew (h : RS w R Q dd dn dc ds W s cs fv fl) : RS w R Q dd dn dc ds W.drew s cs fv fl := ⟨h.rd.keep (Below.refl _ W).drew, h.q.drew, h.own.drew, h.zs.below (Below.refl _ W).drew (Nat.le_refl _), h.zb, h.z.drew, h.bel.drew, h.sz, h.rq⟩
theorem RS.take (h : RS w R Q dd dn dc ds W s cs fv fl) (hg : W.grownBy W' (some R)) (hr : Rdr W' w.heap.size R s') : RS w R Q dd dn dc ds W' s' cs fv fl := by
  have hrq := h.rq
  refine ⟨hr, h.q.gb hg (fun e => ?_), ownF_grown h.own hg (fun k hk => ?_), h.zs.gb hg (fun a ha e => ?_), h.zb, h.z.gb hg (fun e => ?_), h.bel.grown hg h.bel.size (fun k hk => ?_), Nat.le_trans h.sz hg.size, hrq⟩
  · have : Q = R := Option.some.inj e; omega
  · have : R = k := Option.some.inj hk; omega
  · have h1 : a.block = R := Option.some.inj e; have := h.zb a ha; omega
  · have : w.heap.size = R := Option.some.inj e; omega
  · have : R = k := Option.some.inj hk; omega
theorem RS.setq (h : RS w R Q dd dn dc ds W s cs fv fl) (k : Nat) (u : Value) : RS w R Q dd dn dc ds (W.setCell ⟨Q, k, none⟩ u) s (cs.setIfInBounds k u) fv fl := by
  have hrq := h.rq
  have hg := fgb_set W ⟨Q, k, none⟩ u
  refine ⟨h.rd.gb hg (fun e => ?_) (fun k hk => ?_), h.q.set k u, ownF_grown h.own hg (fun k hk => ?_), h.zs.gb hg (fun a ha e => ?_), h.zb, h.z.gb hg (fun e => ?_), h.bel.grown hg h.bel.size (fun k hk => ?_), Nat.le_trans h.sz hg.size, hrq⟩
  · have : R = Q := Option.some.inj e; omega
  · have : Q = k := Option.some.inj hk; omega
  · have : Q = k := Option.some.inj hk; omega
  · have h1 : a.block = Q := Option.some.inj e; have := h.zb a ha; omega
  · have : w.heap.size = Q := Option.some.inj e; omega
  · have : Q = k := Option.some.inj hk; omega
theorem RS.keep (h : RS w R Q dd dn dc ds W s cs fv fl) (hb : Below W.heap.size W W') : RS w R Q dd dn dc ds W' s cs fv fl :=
  ⟨h.rd.keep hb, h.q.below hb h.q.lt, ownF_keep h.own hb, h.zs.below hb (Nat.le_refl _), h.zb, h.z.below hb h.z.lt, h.bel.trans (hb.mono h.bel.size), Nat.le_trans h.sz hb.size, h.rq⟩
theorem RS.row (h : RS w R Q dd dn dc ds W s cs fv fl) {row : Option Nat} (hg : W.grownBy W' row) (hk : ∀ k, row = some k → Q + 1 ≤ k) (ho : OwnF W' (Q + 1) fv' fl') : RS w R Q dd dn dc ds W' s cs fv' fl' := by
  have hrq := h.rq
  refine ⟨h.rd.gb hg (fun e => ?_) (fun k e => ?_), h.q.gb hg (fun e => ?_), ho, h.zs.gb hg (fun a ha e => ?_), h.zb, h.z.gb hg (fun e => ?_), h.bel.grown hg h.bel.size (fun k e => ?_), Nat.le_trans h.sz hg.size, hrq⟩
  · have := hk _ e.symm; omega
  · have := hk _ e; omega
  · have := hk _ e.symm; omega
  · have h1 := h.zb a ha; have := hk _ e.symm; omega
  · have := hk _ e.symm; omega
  · have := hk _ e; omega
end
theorem sm_range {z : Int} (h : 0 ≤ z) : -1 ≤ sm z ∧ sm z ≤ 1073741824 := by unfold sm; split <;> omega

end Go.Proofs.Ytgopcaemgcnapaa.Clep
