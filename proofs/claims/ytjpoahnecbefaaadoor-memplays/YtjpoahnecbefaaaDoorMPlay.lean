/- A Mem and the row that tells what it should hold, side by side. Conditions: fewer than 2^30 items; the table of math/bits reads as its initialiser lays it. -/
import Derived.Test.YtjpoahnecbefaaaDoorMRowsW
namespace Go.Proofs.YtjpoahnecbefaaaDoor.Clep
open Go.RowKit
set_option linter.unusedVariables false

theorem mand5 (a : Int) : 0 ≤ bits .and .i64 a 31 ∧ bits .and .i64 a 31 ≤ 31 := by
  have e : bits .and .i64 a 31 = IntKind.i64.wrap ((BitVec.ofInt 64 a &&& BitVec.ofInt 64 31).toNat : Int) := rfl
  have hle : (BitVec.ofInt 64 a &&& BitVec.ofInt 64 31).toNat ≤ 31 := by
    rw [BitVec.toNat_and]; exact Nat.le_trans Nat.and_le_right (by decide)
  rw [e]
  generalize (BitVec.ofInt 64 a &&& BitVec.ofInt 64 31).toNat = k at *
  simp [IntKind.wrap, IntKind.bits, IntKind.signed]
  omega
/-- The Mem made since w, and a row u. -/
structure Pm (w W : World) (M : Nat) (fr : Bool) (ws : List (It × Nat)) (aw : Option Addr) (nw cw : Nat) (u : List It) : Prop where
  ex : ∃ B : Nat → Prop, Mm W M B fr ws ∧ (∀ b, B b → w.heap.size ≤ b) ∧ (0 < nw → ∀ x, aw = some x → ¬ B x.block)
  is : Is W aw nw cw u
  bel : Below w.heap.size w W
  tab : Tab W
  w0 : 0 < w.heap.size
theorem Pm.keep {w W W' : World} {M : Nat} {fr : Bool} {ws : List (It × Nat)} {aw : Option Addr} {nw cw : Nat} {u : List It} (h : Pm w W M fr ws aw nw cw u) (hb : Below W.heap.size W W') : Pm w W' M fr ws aw nw cw u := by
  obtain ⟨B, h1, h2, h3⟩ := h.ex
  exact ⟨⟨B, h1.keep hb, h2, h3⟩, h.is.below hb (Nat.le_refl _), bmore h.bel hb, h.tab.keep hb, h.w0⟩
theorem Is.lt {w : World} {a : Option Addr} {n c : Nat} {l : List It} (h : Is w a n c l) (hn : 0 < n) (x : Addr) (hx : a = some x) : x.block < w.heap.size := by
  obtain ⟨b, off, e, hc⟩ := h.2.2.2 hn
  obtain ⟨y, hy⟩ : ∃ y, l[0]? = some y := ⟨_, List.getElem?_eq_getElem (by rw [h.1]; exact hn)⟩
  rw [e] at hx; cases hx
  exact (hc 0 y hy).lt
/-- Another row in the place of u, made since. -/
theorem Pm.row {w W W' : World} {M : Nat} {fr : Bool} {ws : List (It × Nat)} {aw : Option Addr} {nw cw : Nat} {u : List It} (h : Pm w W M fr ws aw nw cw u) (hb : Below W.heap.size W W') {a : Option Addr} {n c : Nat} {m : List It} (hI : Is W' a n c m) (ho : 0 < n → ∀ x, a = some x → W.heap.size ≤ x.block) : Pm w W' M fr ws a n c m := by
  obtain ⟨B, h1, h2, h3⟩ := h.ex
  exact ⟨⟨B, h1.keep hb, h2, fun hp x hx e => by have := h1.lt _ e; have := ho hp x hx; omega⟩, hI, bmore h.bel hb, h.tab.keep hb, h.w0⟩
theorem pm_freeze (w W : World) (M : Nat) (fr : Bool) (ws : List (It × Nat)) (aw : Option Addr) (nw cw : Nat) (u : List It) (h : Pm w W M fr ws aw nw cw u) :
    Calls Tryd.prog 13 #[.pointer (some ⟨M, 0, none⟩)] W fun e W' => e = .returned (.tuple #[]) ∧ Pm w W' M true ws aw nw cw u := by
  obtain ⟨B, h1, h2, h3⟩ := h.ex
  refine (mfreeze_h W M B fr ws h1).mono ?_
  rintro e W' ⟨rfl, hm, hc⟩
  have hs := h.bel.size
  have h0 := h.w0
  refine ⟨rfl, ⟨_, hm, fun b hb => ?_, fun hp x hx e => ?_⟩, h.is.ch hc h3, Below.ch h.bel hc hs h2, h.tab.ch hc (fun e => by have := h2 _ e; omega), h0⟩
  · exact hb.elim (h2 b) (fun e => by omega)
  · exact e.elim (h3 hp x hx) (fun e => by have := h.is.lt hp x hx; omega)
theorem pm_apply (w W : World) (M : Nat) (fr : Bool) (ws : List (It × Nat)) (aw : Option Addr) (nw cw : Nat) (u : List It) (h : Pm w W M fr ws aw nw cw u) (a : Option Addr) (n c : Nat) (l : List It) (hI : Is W a n c l) (hn : n ≤ 1000) (hws : ws.length ≤ 1000000) (ha : 0 < n → ∀ x, a = some x → x.block < w.heap.size) (E : Int) (hE : applyE fr l = E) (ws' : List (It × Nat)) (hW : applyW fr l ws = ws') :
    Calls Tryd.prog 9 #[.pointer (some ⟨M, 0, none⟩), .slice a n c] W fun e W' => e = .returned (.int .i64 E) ∧ Pm w W' M fr ws' aw nw cw u := by
  obtain ⟨B, h1, h2, h3⟩ := h.ex
  have h0 := h.w0
  refine (mapply_h W M B fr ws a n c l h1 hI (by omega) (by omega) (fun hp x hx e => by have := ha hp x hx; have := h2 _ e; omega) h.tab (fun e => by have := h2 _ e; omega)).mono ?_
  rintro e W' ⟨rfl, hm, hc⟩
  rw [hE, hW] at *
  have hs := h.bel.size
  refine ⟨rfl, ⟨_, hm, fun b hb => ?_, fun hp x hx e => ?_⟩, h.is.ch hc h3, Below.ch h.bel hc hs h2, h.tab.ch hc (fun e => by have := h2 _ e; omega), h0⟩
  · exact hb.elim (h2 b) (fun e => by omega)
  · exact e.elim (h3 hp x hx) (fun e => by have := h.is.lt hp x hx; omega)
theorem pm_asks (w W : World) (M : Nat) (fr : Bool) (ws : List (It × Nat)) (aw : Option Addr) (nw cw : Nat) (u : List It) (h : Pm w W M fr ws aw nw cw u) (hws : ws.length ≤ 1000000) (m : List It) (hm : ws.map Prod.fst = m) (q : Nat) (hq : ws.length = q) :
    Calls Tryd.prog 11 #[.pointer (some ⟨M, 0, none⟩)] W (AnsO m W) ∧
    Calls Tryd.prog 10 #[.pointer (some ⟨M, 0, none⟩)] W (fun e w' => e = .returned (.int .i64 q) ∧ w' = W) ∧
    Calls Tryd.prog 16 #[.pointer (some ⟨M, 0, none⟩)] W (fun e w' => e = .returned (.int .i64 (28 * (q : Int))) ∧ w' = W) ∧
    Calls Tryd.prog 17 #[.pointer (some ⟨M, 0, none⟩)] W (fun e w' => e = .returned (.bool fr) ∧ w' = W) := by
  obtain ⟨B, h1, h2, h3⟩ := h.ex
  have hb := mbytes_h W M B fr ws h1 (by omega)
  have hl := mlen_h W M B fr ws h1
  rw [hq] at hb hl
  rw [show ((q * 28 : Nat) : Int) = 28 * (q : Int) from by omega] at hb
  exact ⟨mitems_ho W M B fr ws h1 (by omega) m hm, hl, hb, mfrozen_h W M B fr ws h1⟩
/-- One more item laid to the row by the document's own Rows. -/
theorem rows_two (aw : Option Addr) (nw cw : Nat) (u : List It) (a : Option Addr) (c : Nat) (x : It) : rowsL [⟨aw, nw, cw, u⟩, ⟨a, 1, c, [x]⟩] = putL x u := by
  show mg (mg [] u) [x] = _
  rw [mg_one]; rfl
theorem put_row (x : It) (hx : x.ok = true) (ws : List (It × Nat)) : ((putA x (hgt x.S x.K x.T : Nat) ws).2).map Prod.fst = putL x (ws.map Prod.fst) := by
  have h := hgt_le x.S x.K x.T
  unfold putA
  rw [if_pos ⟨hx, by omega, by omega⟩]
  exact putW_L x _ ws
theorem rows_step (l : List It) (k : Nat) (x : It) (hx : l[k]? = some x) (hok : l.all It.ok = true) (ws : List (It × Nat)) : (putAll (l.take (k + 1)) ws).map Prod.fst = putL x ((putAll (l.take k) ws).map Prod.fst) := by
  rw [putAll_take l k x hx ws]
  exact put_row x (List.all_eq_true.1 hok x (List.mem_of_getElem? hx)) _
/-- Two slices in a row of their own. -/
theorem rws_two (w : World) (z0 z1 : Sl) (h0 : Is w z0.a z0.n z0.c z0.l) (h1 : Is w z1.a z1.n z1.c z1.l) (n0 : z0.n ≤ 9223372036854775807) (n1 : z1.n ≤ 9223372036854775807) :
    Rws (w.alloc (.cells #[.slice z0.a z0.n z0.c, .slice z1.a z1.n z1.c] 22)) (some ⟨w.heap.size, 0, none⟩) 2 2 [z0, z1] := by
  have hb := (Below.refl _ w).alloc (Nat.le_refl _) (Obj.cells #[.slice z0.a z0.n z0.c, .slice z1.a z1.n z1.c] 22)
  refine ⟨rfl, ⟨Nat.le_refl _, fun h => by cases h⟩, fun z hz => ?_, fun _ => ⟨w.heap.size, 0, rfl, fun i z hi => ?_⟩⟩
  · simp only [List.mem_cons, List.not_mem_nil, or_false] at hz
    rcases hz with rfl | rfl
    · exact ⟨h0.below hb (Nat.le_refl _), n0⟩
    · exact ⟨h1.below hb (Nat.le_refl _), n1⟩
  · match i, hi with
    | 0, hi => simp at hi; subst hi; simp
    | 1, hi => simp at hi; subst hi; simp
    | i + 2, hi => simp at hi
theorem ownI_blk {w : World} {B : Nat} {a : Option Addr} {n c : Nat} {l : List It} (h : OwnI w B (.slice a n c) l) (hw : ∀ x ∈ l, x.wf) (x : Addr) (hx : a = some x) : B ≤ x.block := by
  obtain ⟨ao, cap, e, _, _, hB⟩ := ownI_is h hw
  have e1 : a = ao := (Value.slice.inj e).1
  rw [e1] at hx
  exact hB x hx
/-- One item of a row, as a slice of its own. -/
theorem is_cut {w : World} {b off n c : Nat} {l : List It} (h : Is w (some ⟨b, off, none⟩) n c l) (k : Nat) (x : It) (hx : l[k]? = some x) (c1 : Nat) (hc : 1 ≤ c1) : Is w (some ⟨b, off + k * 5, none⟩) 1 c1 [x] := by
  have hk : k < n := by rw [← h.1]; exact (List.getElem?_eq_some_iff.1 hx).1
  obtain ⟨b', off', e, hcell⟩ := h.2.2.2 (by omega)
  cases e
  refine ⟨rfl, ⟨hc, fun h => by cases h⟩, fun y hy => by rw [List.mem_singleton.1 hy]; exact h.2.2.1 x (List.mem_of_getElem? hx), fun _ => ⟨b, off + k * 5, rfl, fun i y hi => ?_⟩⟩
  match i, hi with
  | 0, hi =>
    simp at hi
    subst hi
    exact hcell k _ hx
  | i + 1, hi => simp at hi

end Go.Proofs.YtjpoahnecbefaaaDoor.Clep
