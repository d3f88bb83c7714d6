/- The document's own Disk: a call that counts (a walk over the translated program), for any Disk. No conditions. -/
import Derived.Test.YtfogfpanfhmijaaGreatYo
import Derived.BigRegion
import Derived.RegionTactic
namespace Go.Proofs.YtfogfpanfhmijaaGreat.Clep
open Go.RowKit Go.Maps
set_option linter.unusedVariables false

/-- The nine cells of the document's Disk. -/
def RB (w : World) (Q : Nat) (q : Nat) (fv nv lv ov : Value) (c : Nat) (left fail : Int) (dead : Bool) : Prop :=
  w.heap[Q]? = some (.cells #[.int .i64 q, fv, nv, lv, ov, .int .i64 c, .int .i64 left, .int .i64 fail, .bool dead] 56 (0, 0))
/-- Nothing but one block differs. -/
structure Only (Q : Nat) (w w' : World) : Prop where
  os : w'.os = w.os
  tape : w'.tape = w.tape
  output : w'.output = w.output
  size : w'.heap.size = w.heap.size
  block : ∀ i, i ≠ Q → w'.heap[i]? = w.heap[i]?
theorem Only.refl (Q : Nat) (w : World) : Only Q w w := ⟨rfl, rfl, rfl, rfl, fun _ _ => rfl⟩
theorem Only.set {Q : Nat} {w w' : World} (h : Only Q w w') (i : Nat) (v : Value) : Only Q w (w'.setCell ⟨Q, i, none⟩ v) :=
  ⟨h.os, h.tape, h.output, by rw [← h.size]; simp, fun k hk => (heap_setCell_other w' ⟨Q, i, none⟩ k v hk).trans (h.block k hk)⟩
theorem RB.cells {w : World} {Q q c : Nat} {fv nv lv ov : Value} {left fail : Int} {dead : Bool} (h : RB w Q q fv nv lv ov c left fail dead) :
    w.cell? ⟨Q, 5, none⟩ = some (.int .i64 c) ∧ w.cell? ⟨Q, 6, none⟩ = some (.int .i64 left) ∧ w.cell? ⟨Q, 7, none⟩ = some (.int .i64 fail) ∧ w.cell? ⟨Q, 8, none⟩ = some (.bool dead) ∧ ∀ i, w.frozen? ⟨Q, i, none⟩ = false := by
  unfold RB at h
  exact ⟨cell_of h rfl, cell_of h rfl, cell_of h rfl, cell_of h rfl, fun i => frozen_of_row w Q i _ _ h⟩
/-- The error of a call, what is left, what fails, whether it is dead. -/
def callF (left fail : Int) (dead : Bool) : Int × Int × Int × Bool :=
  if dead then (50, left, fail, dead) else (if fail = 1 then 15 else 0, if 0 < left then left - 1 else left, if 0 < fail then fail - 1 else fail, if 0 < left then decide (left = 1) else false)

theorem RB.set5 {w : World} {Q q c : Nat} {fv nv lv ov : Value} {left fail : Int} {dead : Bool} (h : RB w Q q fv nv lv ov c left fail dead) (x : Nat) : RB (w.setCell ⟨Q, 5, none⟩ (.int .i64 x)) Q q fv nv lv ov x left fail dead := by
  unfold RB at h ⊢; rw [heap_setCell_same w Q 5 _ _ _ h]; rfl
theorem RB.set6 {w : World} {Q q c : Nat} {fv nv lv ov : Value} {left fail : Int} {dead : Bool} (h : RB w Q q fv nv lv ov c left fail dead) (x : Int) : RB (w.setCell ⟨Q, 6, none⟩ (.int .i64 x)) Q q fv nv lv ov c x fail dead := by
  unfold RB at h ⊢; rw [heap_setCell_same w Q 6 _ _ _ h]; rfl
theorem RB.set7 {w : World} {Q q c : Nat} {fv nv lv ov : Value} {left fail : Int} {dead : Bool} (h : RB w Q q fv nv lv ov c left fail dead) (x : Int) : RB (w.setCell ⟨Q, 7, none⟩ (.int .i64 x)) Q q fv nv lv ov c left x dead := by
  unfold RB at h ⊢; rw [heap_setCell_same w Q 7 _ _ _ h]; rfl
theorem RB.set8 {w : World} {Q q c : Nat} {fv nv lv ov : Value} {left fail : Int} {dead : Bool} (h : RB w Q q fv nv lv ov c left fail dead) (x : Bool) : RB (w.setCell ⟨Q, 8, none⟩ (.bool x)) Q q fv nv lv ov c left fail x := by
  unfold RB at h ⊢; rw [heap_setCell_same w Q 8 _ _ _ h]; rfl

set_option maxHeartbeats 1000000 in
set_option maxRecDepth 8000 in
theorem call_any (Q q c : Nat) (fv nv lv ov : Value) (left fail : Int) (dead : Bool) (w : World) (h : RB w Q q fv nv lv ov c left fail dead) (hc : c ≤ 1099511627776) (hl : -9223372036854775808 ≤ left ∧ left ≤ 9223372036854775807) (hf : -9223372036854775808 ≤ fail ∧ fail ≤ 9223372036854775807) :
    Calls Tryz.prog 58 #[.pointer (some ⟨Q, 0, none⟩)] w fun e w' => e = .returned (.int .i64 (callF left fail dead).1) ∧ RB w' Q q fv nv lv ov (c + 1) (callF left fail dead).2.1 (callF left fail dead).2.2.1 (callF left fail dead).2.2.2 ∧ Only Q w w' := by
  obtain ⟨c5, c6, c7, c8, fr⟩ := h.cells
  have H := hide h
  clear h
  cases dead with
  | true =>
    go_enter Tryz.func58, Tryz.ntmps58
    go_wp2
    go_ret
    exact ⟨rfl, H.out.set5 (c + 1), (Only.refl Q w).set 5 _⟩
  | false =>
    rcases (show left ≤ 0 ∨ left = 1 ∨ 1 < left by omega) with hL | hL | hL
    · rcases (show fail ≤ 0 ∨ fail = 1 ∨ 1 < fail by omega) with hF | hF | hF
      · have E := hide (show callF left fail false = (0, left, fail, false) by
          unfold callF
          have l1 : ¬ (0 < left) := by omega
          have f1 : ¬ (0 < fail) := by omega
          have f2 : ¬ (fail = 1) := by omega
          simp [l1, f1, f2])
        have l0 : ¬ (0 < left) := by omega
        have f0 : ¬ (0 < fail) := by omega
        go_enter Tryz.func58, Tryz.ntmps58
        go_wp2
        go_ret
        rw [E.out]
        exact ⟨rfl, H.out.set5 (c + 1), (Only.refl Q w).set 5 _⟩
      · subst hF
        have E := hide (show callF left 1 false = (15, left, 0, false) by
          unfold callF
          have l1 : ¬ (0 < left) := by omega
          simp [l1])
        have l0 : ¬ (0 < left) := by omega
        go_enter Tryz.func58, Tryz.ntmps58
        go_wp2
        go_ret
        rw [E.out]
        exact ⟨rfl, RB.set7 (H.out.set5 (c + 1)) _, ((Only.refl Q w).set 5 _).set 7 _⟩
      · have E := hide (show callF left fail false = (0, left, fail - 1, false) by
          unfold callF
          have l1 : ¬ (0 < left) := by omega
          have f1 : 0 < fail := by omega
          have f2 : ¬ (fail = 1) := by omega
          simp [l1, f1, f2])
        have l0 : ¬ (0 < left) := by omega
        have f0 : 0 < fail := by omega
        have f3 : (fail - 1 == 0) = false := by simp; omega
        go_enter Tryz.func58, Tryz.ntmps58
        go_wp2
        go_ret
        rw [E.out]
        exact ⟨rfl, RB.set7 (H.out.set5 (c + 1)) _, ((Only.refl Q w).set 5 _).set 7 _⟩
    · rcases (show fail ≤ 0 ∨ fail = 1 ∨ 1 < fail by omega) with hF | hF | hF
      · subst hL
        have E := hide (show callF 1 fail false = (0, 0, fail, true) by
          unfold callF
          have f1 : ¬ (0 < fail) := by omega
          have f2 : ¬ (fail = 1) := by omega
          simp [f1, f2])
        have f0 : ¬ (0 < fail) := by omega
        go_enter Tryz.func58, Tryz.ntmps58
        go_wp2
        go_ret
        rw [E.out]
        exact ⟨rfl, RB.set8 (RB.set6 (H.out.set5 (c + 1)) _) _, (((Only.refl Q w).set 5 _).set 6 _).set 8 _⟩
      · subst hL
        subst hF
        have E := hide (show callF 1 1 false = (15, 0, 0, true) by
          unfold callF
          simp)
        go_enter Tryz.func58, Tryz.ntmps58
        go_wp2
        go_ret
        rw [E.out]
        exact ⟨rfl, RB.set7 (RB.set8 (RB.set6 (H.out.set5 (c + 1)) _) _) _, ((((Only.refl Q w).set 5 _).set 6 _).set 8 _).set 7 _⟩
      · subst hL
        have E := hide (show callF 1 fail false = (0, 0, fail - 1, true) by
          unfold callF
          have f1 : 0 < fail := by omega
          have f2 : ¬ (fail = 1) := by omega
          simp [f1, f2])
        have f0 : 0 < fail := by omega
        have f3 : (fail - 1 == 0) = false := by simp; omega
        go_enter Tryz.func58, Tryz.ntmps58
        go_wp2
        go_ret
        rw [E.out]
        exact ⟨rfl, RB.set7 (RB.set8 (RB.set6 (H.out.set5 (c + 1)) _) _) _, ((((Only.refl Q w).set 5 _).set 6 _).set 8 _).set 7 _⟩
    · rcases (show fail ≤ 0 ∨ fail = 1 ∨ 1 < fail by omega) with hF | hF | hF
      · have E := hide (show callF left fail false = (0, left - 1, fail, false) by
          unfold callF
          have l1 : 0 < left := by omega
          have l2 : ¬ (left = 1) := by omega
          have f1 : ¬ (0 < fail) := by omega
          have f2 : ¬ (fail = 1) := by omega
          simp [l1, l2, f1, f2])
        have l0 : 0 < left := by omega
        have l3 : (left - 1 == 0) = false := by simp; omega
        have f0 : ¬ (0 < fail) := by omega
        go_enter Tryz.func58, Tryz.ntmps58
        go_wp2
        go_ret
        rw [E.out]
        exact ⟨rfl, RB.set8 (RB.set6 (H.out.set5 (c + 1)) _) _, (((Only.refl Q w).set 5 _).set 6 _).set 8 _⟩
      · subst hF
        have E := hide (show callF left 1 false = (15, left - 1, 0, false) by
          unfold callF
          have l1 : 0 < left := by omega
          have l2 : ¬ (left = 1) := by omega
          simp [l1, l2])
        have l0 : 0 < left := by omega
        have l3 : (left - 1 == 0) = false := by simp; omega
        go_enter Tryz.func58, Tryz.ntmps58
        go_wp2
        go_ret
        rw [E.out]
        exact ⟨rfl, RB.set7 (RB.set8 (RB.set6 (H.out.set5 (c + 1)) _) _) _, ((((Only.refl Q w).set 5 _).set 6 _).set 8 _).set 7 _⟩
      · have E := hide (show callF left fail false = (0, left - 1, fail - 1, false) by
          unfold callF
          have l1 : 0 < left := by omega
          have l2 : ¬ (left = 1) := by omega
          have f1 : 0 < fail := by omega
          have f2 : ¬ (fail = 1) := by omega
          simp [l1, l2, f1, f2])
        have l0 : 0 < left := by omega
        have l3 : (left - 1 == 0) = false := by simp; omega
        have f0 : 0 < fail := by omega
        have f3 : (fail - 1 == 0) = false := by simp; omega
        go_enter Tryz.func58, Tryz.ntmps58
        go_wp2
        go_ret
        rw [E.out]
        exact ⟨rfl, RB.set7 (RB.set8 (RB.set6 (H.out.set5 (c + 1)) _) _) _, ((((Only.refl Q w).set 5 _).set 6 _).set 8 _).set 7 _⟩

end Go.Proofs.YtfogfpanfhmijaaGreat.Clep

/- The document's own Disk: what it holds, and how it lies in memory beside other things. No conditions. -/
namespace Go.Proofs.YtfogfpanfhmijaaGreat.Clep
open Go.RowKit Go.Maps
set_option linter.unusedVariables false

structure RO where
  kind : Nat
  file : Nat
  a : ByteArray
  b : ByteArray
structure RSt where
  q : Nat
  files : List (ByteArray × Nat)
  now : List (ByteArray × Int)
  last : List (ByteArray × Int)
  ops : List RO
  calls : Nat
  left : Int
  fail : Int
  dead : Bool
def flC (x : ByteArray × Nat) : List Value := [.string x.1, .int .i64 x.2]
def roC (o : RO) : List Value := [.int .i64 o.kind, .int .i64 o.file, .string o.a, .string o.b]
def OwnF (w : World) (v : Value) (l : List (ByteArray × Nat)) : Prop := w.ownsRow 0 95 2 v l.length (l.flatMap flC)
def OwnO (w : World) (v : Value) (l : List RO) : Prop := w.ownsRow 0 98 4 v l.length (l.flatMap roC)
structure ROk (T : RSt) : Prop where
  cal : T.calls ≤ 1000
  nfl : T.files.length ≤ T.calls
  nop : T.ops.length ≤ T.calls
  nnw : T.now.length ≤ T.calls
  nls : T.last.length + T.ops.length ≤ T.calls
  fnw : ∀ x ∈ T.now, 0 ≤ x.2 ∧ x.2 < T.files.length
  fls : ∀ x ∈ T.last, 0 ≤ x.2 ∧ x.2 < T.files.length
  fop : ∀ o ∈ T.ops, o.kind ≤ 2 ∧ o.file < T.files.length + 1 ∧ (o.kind = 0 → o.file < T.files.length)
  siz : ∀ x ∈ T.files, x.1.size ≤ 250000 ∧ x.2 ≤ x.1.size
  lft : -1 ≤ T.left ∧ T.left ≤ 9223372036854775807
  fai : 0 ≤ T.fail ∧ T.fail ≤ 9223372036854775807
  quo : T.q ≤ 9223372036854775807
/-- The block Q holds the document's Disk T; every block of it is one of P's. -/
structure RefIs (w : World) (Q : Nat) (T : RSt) (P : Nat → Prop) (fv nv lv ov : Value) : Prop where
  row : RB w Q T.q fv nv lv ov T.calls T.left T.fail T.dead
  fs : OwnF w fv T.files
  nw : OwnN w 0 nv T.now
  ls : OwnN w 0 lv T.last
  os : OwnO w ov T.ops
  pQ : P Q
  pf : ∀ g, fv.ownBlock = some g → P g ∧ g ≠ Q
  pn : ∀ g, nv.ownBlock = some g → P g ∧ g ≠ Q ∧ fv.ownBlock ≠ some g ∧ ov.ownBlock ≠ some g
  pl : ∀ g, lv.ownBlock = some g → P g ∧ g ≠ Q ∧ fv.ownBlock ≠ some g ∧ ov.ownBlock ≠ some g
  po : ∀ g, ov.ownBlock = some g → P g ∧ g ≠ Q ∧ fv.ownBlock ≠ some g
  ok : ROk T
def RIs (w : World) (Q : Nat) (T : RSt) (P : Nat → Prop) : Prop := ∃ fv nv lv ov, RefIs w Q T P fv nv lv ov
/-- Only blocks of P's (and new ones) differ. -/
structure Chg (P : Nat → Prop) (w w' : World) : Prop where
  os : w'.os = w.os
  tape : w'.tape = w.tape
  output : w'.output = w.output
  size : w.heap.size ≤ w'.heap.size
  block : ∀ i, i < w.heap.size → ¬ P i → w'.heap[i]? = w.heap[i]?
theorem Chg.refl (P : Nat → Prop) (w : World) : Chg P w w := ⟨rfl, rfl, rfl, Nat.le_refl _, fun _ _ _ => rfl⟩
theorem Chg.trans {P : Nat → Prop} {a b c : World} (h : Chg P a b) (k : Chg P b c) : Chg P a c :=
  ⟨k.os.trans h.os, k.tape.trans h.tape, k.output.trans h.output, Nat.le_trans h.size k.size, fun i hi hp => (k.block i (Nat.lt_of_lt_of_le hi h.size) hp).trans (h.block i hi hp)⟩
theorem Chg.of_below {P : Nat → Prop} {w w' : World} (h : Below w.heap.size w w') : Chg P w w' := ⟨h.os, h.tape, h.output, h.size, fun i hi _ => h.block i hi⟩
theorem Chg.of_only {P : Nat → Prop} {Q : Nat} {w w' : World} (h : Only Q w w') (hp : P Q) : Chg P w w' :=
  ⟨h.os, h.tape, h.output, Nat.le_of_eq h.size.symm, fun i hi hn => h.block i (fun e => hn (e ▸ hp))⟩
theorem Chg.of_grown {P : Nat → Prop} {w w' : World} {row : Option Nat} (h : w.grownBy w' row) (hp : ∀ g, row = some g → P g) : Chg P w w' :=
  ⟨h.os, h.tape, h.output, h.size, fun i hi hn => h.block i hi (fun e => hn (hp i e.symm))⟩
/-- A row lies on where its block does. -/
theorem own_block {w w' : World} {B e sz n : Nat} {v : Value} {xs : List Value} (h : w.ownsRow B e sz v n xs) (hb : ∀ g, v.ownBlock = some g → w'.heap[g]? = w.heap[g]?) : w'.ownsRow B e sz v n xs := by
  obtain ⟨hl, ⟨rfl, hn⟩ | ⟨g, cap, cur, rfl, hg, hh, r⟩⟩ := h
  · exact ⟨hl, .inl ⟨rfl, hn⟩⟩
  · exact ⟨hl, .inr ⟨g, cap, cur, rfl, hg, (hb g rfl).trans hh, r⟩⟩
/-- The document's Disk stands where its blocks are as they were. -/
theorem RefIs.keep {w w' : World} {Q : Nat} {T : RSt} {P P' : Nat → Prop} {fv nv lv ov : Value} (h : RefIs w Q T P fv nv lv ov) (hb : ∀ i, P i → i < w.heap.size → w'.heap[i]? = w.heap[i]?) (hp : ∀ i, P i → i < w.heap.size → P' i) : RefIs w' Q T P' fv nv lv ov := by
  have hQ : Q < w.heap.size := by have := h.row; unfold RB at this; exact (Array.getElem?_eq_some_iff.1 this).1
  have lf := World.ownsRow.lt h.fs
  have ln := World.ownsRow.lt h.nw
  have ll := World.ownsRow.lt h.ls
  have lo := World.ownsRow.lt h.os
  refine ⟨?_, own_block h.fs (fun g hg => hb g (h.pf g hg).1 (lf g hg).2), own_block h.nw (fun g hg => hb g (h.pn g hg).1 (ln g hg).2), own_block h.ls (fun g hg => hb g (h.pl g hg).1 (ll g hg).2), own_block h.os (fun g hg => hb g (h.po g hg).1 (lo g hg).2), hp Q h.pQ hQ,
    fun g hg => ⟨hp g (h.pf g hg).1 (lf g hg).2, (h.pf g hg).2⟩, fun g hg => ⟨hp g (h.pn g hg).1 (ln g hg).2, (h.pn g hg).2⟩, fun g hg => ⟨hp g (h.pl g hg).1 (ll g hg).2, (h.pl g hg).2⟩, fun g hg => ⟨hp g (h.po g hg).1 (lo g hg).2, (h.po g hg).2⟩, h.ok⟩
  have := h.row
  unfold RB at this ⊢
  rw [hb Q h.pQ hQ]
  exact this
theorem RefIs.lt {w : World} {Q : Nat} {T : RSt} {P : Nat → Prop} {fv nv lv ov : Value} (h : RefIs w Q T P fv nv lv ov) : Q < w.heap.size := by
  have := h.row; unfold RB at this; exact (Array.getElem?_eq_some_iff.1 this).1
/-- Of the Disk's own block numbers are set: the rows stand. -/
theorem RefIs.only {w w' : World} {Q : Nat} {T T' : RSt} {P : Nat → Prop} {fv nv lv ov : Value} (h : RefIs w Q T P fv nv lv ov) (ho : Only Q w w') (hr : RB w' Q T'.q fv nv lv ov T'.calls T'.left T'.fail T'.dead)
    (e1 : T'.files = T.files) (e2 : T'.now = T.now) (e3 : T'.last = T.last) (e4 : T'.ops = T.ops) (ok : ROk T') : RefIs w' Q T' P fv nv lv ov :=
  ⟨hr, by rw [e1]; exact own_block h.fs (fun g hg => ho.block g (h.pf g hg).2), by rw [e2]; exact own_block h.nw (fun g hg => ho.block g (h.pn g hg).2.1), by rw [e3]; exact own_block h.ls (fun g hg => ho.block g (h.pl g hg).2.1),
   by rw [e4]; exact own_block h.os (fun g hg => ho.block g (h.po g hg).2.1), h.pQ, h.pf, h.pn, h.pl, h.po, ok⟩
/-- A call that counts. -/
def callT (T : RSt) : Int × RSt := ((callF T.left T.fail T.dead).1, { T with calls := T.calls + 1, left := (callF T.left T.fail T.dead).2.1, fail := (callF T.left T.fail T.dead).2.2.1, dead := (callF T.left T.fail T.dead).2.2.2 })
theorem callT_ok {T : RSt} (h : ROk T) (hc : T.calls < 1000) : ROk (callT T).2 := by
  have hl := h.lft
  have hf := h.fai
  refine ⟨by show T.calls + 1 ≤ 1000; omega, Nat.le_succ_of_le h.nfl, Nat.le_succ_of_le h.nop, Nat.le_succ_of_le h.nnw, Nat.le_succ_of_le h.nls, h.fnw, h.fls, h.fop, h.siz, ?_, ?_, h.quo⟩
  · show -1 ≤ (callF T.left T.fail T.dead).2.1 ∧ (callF T.left T.fail T.dead).2.1 ≤ 9223372036854775807
    unfold callF
    split
    · exact hl
    · simp only
      split <;> omega
  · show 0 ≤ (callF T.left T.fail T.dead).2.2.1 ∧ (callF T.left T.fail T.dead).2.2.1 ≤ 9223372036854775807
    unfold callF
    split
    · exact hf
    · simp only
      split <;> omega
theorem callT_any (Q : Nat) (T : RSt) (P : Nat → Prop) (fv nv lv ov : Value) (w : World) (h : RefIs w Q T P fv nv lv ov) (hc : T.calls < 1000) :
    Calls Tryz.prog 58 #[.pointer (some ⟨Q, 0, none⟩)] w fun e w' => e = .returned (.int .i64 (callT T).1) ∧ RefIs w' Q (callT T).2 P fv nv lv ov ∧ Only Q w w' := by
  refine (call_any Q T.q T.calls fv nv lv ov T.left T.fail T.dead w h.row (by omega) (by have := h.ok.lft; omega) (by have := h.ok.fai; omega)).mono ?_
  rintro e w' ⟨rfl, hr, ho⟩
  exact ⟨rfl, h.only ho hr rfl rfl rfl rfl (callT_ok h.ok hc), ho⟩

end Go.Proofs.YtfogfpanfhmijaaGreat.Clep

/- The document's own Disk: where a name's file lies; how many bytes it has (a walk). For any such Disk. -/
namespace Go.Proofs.YtfogfpanfhmijaaGreat.Clep
open Go.RowKit Go.Maps
set_option linter.unusedVariables false

theorem flC_at : ∀ (l : List (ByteArray × Nat)) (j : Nat) (x : ByteArray × Nat), l[j]? = some x → (l.flatMap flC)[j * 2]? = some (.string x.1) ∧ (l.flatMap flC)[j * 2 + 1]? = some (.int .i64 x.2)
  | [], j, x, h => by simp at h
  | y :: r, 0, x, h => by
    simp only [List.getElem?_cons_zero, Option.some.injEq] at h
    subst h
    exact ⟨rfl, rfl⟩
  | y :: r, j + 1, x, h => by
    have h' : r[j]? = some x := by simpa using h
    have := flC_at r j x h'
    rw [List.flatMap_cons, show (j + 1) * 2 = j * 2 + 1 + 1 by omega]
    exact ⟨by simpa [flC] using this.1, by simpa [flC] using this.2⟩
/-- A name of now (k) leads to its file (j). -/
theorem RefIs.look {w : World} {Q : Nat} {T : RSt} {P : Nat → Prop} {fv nv lv ov : Value} (h : RefIs w Q T P fv nv lv ov) {k : Nat} (hk : k < T.now.length) :
    ∃ (gn cn gf cf j : Nat) (d : ByteArray) (l : Nat), nv = .slice (some ⟨gn, 0, none⟩) T.now.length cn ∧ fv = .slice (some ⟨gf, 0, none⟩) T.files.length cf ∧ T.now.length ≤ cn ∧ T.files.length ≤ cf ∧ cn ≤ 9223372036854775807 ∧ cf ≤ 9223372036854775807 ∧
      (T.now[k]'hk).2 = (j : Int) ∧ T.files[j]? = some (d, l) ∧ j < T.files.length ∧ w.cell? ⟨gn, k * 2 + 1, none⟩ = some (.int .i64 (j : Int)) ∧ w.cell? ⟨gf, j * 2, none⟩ = some (.string d) ∧ w.cell? ⟨gf, j * 2 + 1, none⟩ = some (.int .i64 (l : Int)) ∧
      w.frozen? ⟨gf, j * 2, none⟩ = false ∧ w.frozen? ⟨gf, j * 2 + 1, none⟩ = false ∧ gf ≠ Q ∧ P gf := by
  have hm := h.ok.fnw _ (List.getElem_mem hk)
  obtain ⟨j, hj⟩ := Int.eq_ofNat_of_zero_le hm.1
  have hjl : j < T.files.length := by have := hm.2; rw [hj] at this; omega
  obtain ⟨⟨d, l⟩, hx⟩ : ∃ x, T.files[j]? = some x := ⟨_, List.getElem?_eq_getElem hjl⟩
  obtain ⟨an, cn, e1, h1, h2, h3⟩ := own_nm h.nw
  have hF := h.fs
  obtain ⟨hl, ⟨hn1, hn⟩ | ⟨gf, cf, cur, rfl, hg, hh, r1, r2, r3, r4⟩⟩ := hF
  · omega
  have hN := h.nw
  obtain ⟨hl', ⟨hn1, hn⟩ | ⟨gn, cn', cur', e2, hg', hh', s1, s2, s3, s4⟩⟩ := hN
  · rw [hn] at hk; omega
  subst e2
  have hnC : ∀ j u, (T.now.flatMap nmC)[j]? = some u → w.cell? ⟨gn, j, none⟩ = some u := fun j u hu => by
    have hc := World.ownsRow.cells h.nw (g := gn) rfl j u hu
    rwa [add_plain, Nat.zero_add] at hc
  have hfC : ∀ j u, (T.files.flatMap flC)[j]? = some u → w.cell? ⟨gf, j, none⟩ = some u := fun j u hu => by
    have hc := World.ownsRow.cells h.fs (g := gf) rfl j u hu
    rwa [add_plain, Nat.zero_add] at hc
  obtain ⟨f1, f2⟩ := flC_at T.files j _ hx
  unfold maxLen at r2 s2
  refine ⟨gn, cn', gf, cf, j, d, l, rfl, rfl, s1, r1, s2, r2, hj, hx, hjl, ?_, hfC _ _ f1, hfC _ _ f2, World.ownsRow.frozenAt h.fs _, World.ownsRow.frozenAt h.fs _, (h.pf gf rfl).2, (h.pf gf rfl).1⟩
  rw [← hj]
  exact hnC _ _ (nm_drop (j := 1) (Nat.le_of_lt hk) (by rw [List.drop_eq_getElem_cons hk]; rfl))
theorem RefIs.cells {w : World} {Q : Nat} {T : RSt} {P : Nat → Prop} {fv nv lv ov : Value} (h : RefIs w Q T P fv nv lv ov) :
    w.cell? ⟨Q, 0, none⟩ = some (.int .i64 T.q) ∧ w.cell? ⟨Q, 1, none⟩ = some fv ∧ w.cell? ⟨Q, 2, none⟩ = some nv ∧ w.cell? ⟨Q, 3, none⟩ = some lv ∧ w.cell? ⟨Q, 4, none⟩ = some ov ∧ w.cell? ⟨Q, 8, none⟩ = some (.bool T.dead) ∧ ∀ i, w.frozen? ⟨Q, i, none⟩ = false := by
  have h := h.row
  unfold RB at h
  exact ⟨cell_of h rfl, cell_of h rfl, cell_of h rfl, cell_of h rfl, cell_of h rfl, cell_of h rfl, fun i => frozen_of_row w Q i _ _ h⟩
/-- How many bytes the file has that a number leads to. -/
def szT (fs : List (ByteArray × Nat)) (j : Int) : Nat := match fs[j.toNat]? with | some x => x.1.size | none => 0
def usedT (T : RSt) : Nat := (T.now.map fun x => szT T.files x.2).sum
def usedTo (T : RSt) (k : Nat) : Nat := ((T.now.take k).map fun x => szT T.files x.2).sum
theorem usedTo_le (T : RSt) (h : ROk T) : ∀ k, k ≤ T.now.length → usedTo T k ≤ k * 250000
  | 0, _ => by simp [usedTo]
  | k + 1, hk => by
    have ih := usedTo_le T h k (by omega)
    unfold usedTo at ih ⊢
    rw [List.take_succ_eq_append_getElem (by omega), List.map_append, List.sum_append]
    have : szT T.files (T.now[k]'(by omega)).2 ≤ 250000 := by
      unfold szT
      split
      · rename_i x hx
        exact (h.siz x (List.mem_of_getElem? hx)).1
      · omega
    simp only [List.map_cons, List.map_nil, List.sum_cons, List.sum_nil]
    omega

set_option maxHeartbeats 1000000 in
set_option maxRecDepth 8000 in
theorem usedT_any (Q : Nat) (T : RSt) (P : Nat → Prop) (fv nv lv ov : Value) (w : World) (h : RefIs w Q T P fv nv lv ov) :
    Calls Tryz.prog 59 #[.pointer (some ⟨Q, 0, none⟩)] w fun e w' => e = .returned (.int .i64 (usedT T)) ∧ Below w.heap.size w w' := by
  have H := hide h
  have hlen : T.now.length ≤ 1000 := by have := h.ok.nnw; have := h.ok.cal; omega
  have HU := hide (usedTo_le T h.ok)
  obtain ⟨an, cn, e1, h1, h2, h3⟩ := own_nm h.nw
  clear h3
  subst e1
  clear h
  go_enter Tryz.func59, Tryz.ntmps59
  go_wp2
  go_loopw [3, 4] (fun u i wr => ∃ k : Nat, k ≤ T.now.length ∧ i = .int .i64 k ∧ u = .int .i64 (usedTo T k) ∧ Hid (Below w.heap.size w wr)) (fun _ i _ => T.now.length - (intOf i).toNat)
  case atStart => exact ⟨0, by omega, rfl, rfl, hide (Below.refl _ _)⟩
  case round =>
    obtain ⟨k, hk, rfl, rfl, B⟩ := hrel
    have R := H.out.keep (w' := wr) (P' := P) (fun i _ hi => B.out.block i hi) (fun i hp _ => hp)
    obtain ⟨c0, c1, c2, c3, c4, c8, fr⟩ := R.cells
    by_cases hlt : k < T.now.length
    · obtain ⟨gn, cn', gf, cf, j, d, l, e1, e2, b1, b2, b3, b4, hj, hx, hjl, d1, d2, d3, d4, d5, d6, d7⟩ := R.look hlt
      cases e1
      subst e2
      have hd : d.size ≤ 250000 := (R.ok.siz _ (List.mem_of_getElem? hx)).1
      have hs : szT T.files (T.now[k]'hlt).2 = d.size := by unfold szT; rw [hj, Int.toNat_natCast, hx]
      have hup : usedTo T (k + 1) = usedTo T k + d.size := by
        unfold usedTo
        rw [List.take_succ_eq_append_getElem hlt, List.map_append, List.sum_append]
        simp [hs]
      have HUP := hide hup
      have hU := HU.out k hk
      have hkk : k * 250000 ≤ 250000000 := by omega
      generalize usedTo T k = u at *
      have hfl : T.files.length ≤ 1000 := by have := R.ok.nfl; have := R.ok.cal; omega
      have RR := hide R
      clear R hup hs hx hj c0 c3 c4 c8
      have HB' := hide B.out.drew
      go_wp2_with fail
      go_region
      go_wp2
      go_roundw
      case rel => exact ⟨k + 1, by omega, by go_num, by rw [HUP.out]; go_num, HB'⟩
      case measure => simp [intOf]; omega
    · obtain rfl : k = T.now.length := by omega
      have e : usedTo T T.now.length = usedT T := by unfold usedTo usedT; rw [List.take_length]
      rw [e]
      go_wp2
      go_ret
      exact ⟨rfl, B.out⟩

end Go.Proofs.YtfogfpanfhmijaaGreat.Clep
