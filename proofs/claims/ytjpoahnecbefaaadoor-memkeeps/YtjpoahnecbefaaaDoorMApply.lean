/- What Freeze, allOk and Apply do when called. Conditions: fewer than 2^40 items in all; the items that are handed in are no part of the Mem; the table of math/bits reads as its initialiser lays it. -/
import Derived.Test.YtjpoahnecbefaaaDoorMMem
import Derived.Deep.RegionHeldLaw
namespace Go.Proofs.YtjpoahnecbefaaaDoor.Clep
open Go.RowKit
set_option linter.unusedVariables false

theorem mfz_any (pl : Addr) (M : Nat) (x : Value) (w : World) (hp : w.cell? pl = some (.pointer (some ⟨M, 0, none⟩))) (hc : w.cell? ⟨M, 5, none⟩ = some x) (hz : w.frozen? ⟨M, 5, none⟩ = false) :
    Calls Tryd.prog 28 #[.pointer (some pl)] w fun e w' => e = .returned (.tuple #[]) ∧ w' = w.drew.setCell ⟨M, 5, none⟩ (.int .u32 1) := by
  have hS := hide (storeB ⟨M, 5, none⟩ x w hc hz)
  go_enter Tryd.func28, Tryd.ntmps28
  go_wp2_with fail
  refine hS.out.mono ?_
  rintro e w1 ⟨rfl, rfl⟩
  go_wp2
  go_end0
  exact ⟨rfl, rfl⟩
theorem memV_true (L n : Nat) : (((((memV L n false).setIfInBounds 3 (.int .i32 1)).setIfInBounds 5 (.int .u32 1)).setIfInBounds 2 (.int .u32 1)).setIfInBounds 3 (.int .i32 0)) = memV L n true := rfl

set_option maxRecDepth 100000 in
theorem mfreeze_h (w : World) (M : Nat) (B : Nat → Prop) (fr : Bool) (ws : List (It × Nat)) (h : Mm w M B fr ws) :
    Calls Tryd.prog 13 #[.pointer (some ⟨M, 0, none⟩)] w fun e w' => e = .returned (.tuple #[]) ∧ Mm w' M (fun b => B b ∨ (w.heap.size ≤ b ∧ b < w'.heap.size)) true ws ∧ Ch B w w' := by
  have A1 := (Below.refl _ w).alloc (Nat.le_refl _) (Obj.cells #[.pointer (some ⟨M, 0, none⟩)] 23)
  have K1 := hpS w (Obj.cells #[.pointer (some ⟨M, 0, none⟩)] 23) w.heap.size rfl
  obtain ⟨w1, hw1⟩ : ∃ w1, w1 = w.alloc (Obj.cells #[.pointer (some ⟨M, 0, none⟩)] 23) := ⟨_, rfl⟩
  rw [← hw1] at A1 K1
  have h1 := h.keep A1
  have hMlt := h.lt M h.base
  have B1 := hide A1
  have HM := hide h1
  obtain ⟨L, C, hb, hh, hC⟩ := h1.ex
  have hpl : w1.cell? ⟨w.heap.size, 0, none⟩ = some (.pointer (some ⟨M, 0, none⟩)) := by
    simp [World.cell?, K1]
  cases fr with
  | true =>
    have hD := hide (do_done ⟨M, 2, none⟩ (.func (.func 28) #[] #[.pointer (some ⟨w.heap.size, 0, none⟩)]) w1 (hb.cell rfl))
    clear hb hh hC h1 h A1 K1
    go_enter Tryd.func13, Tryd.ntmps13
    go_wp2_with fail
    rw [← hw1]
    clear hw1
    refine hD.out.mono ?_
    rintro e w2 ⟨rfl, rfl⟩
    go_wp2
    go_end0
    refine ⟨rfl, HM.out.wide (fun b hb => .inl hb) (fun b hb => ?_), Ch.of B1.out⟩
    rcases hb with hb | hb
    · exact HM.out.lt b hb
    · exact hb.2
  | false =>
    have hne : w.heap.size ≠ M := by omega
    have c3 : (w1.setCell ⟨M, 3, none⟩ (.int .i32 1)).cell? ⟨w.heap.size, 0, none⟩ = some (.pointer (some ⟨M, 0, none⟩)) :=
      (World.cell?_setCell_other _ ⟨M, 3, none⟩ ⟨w.heap.size, 0, none⟩ _ (by intro e; injection e with e1; exact hne e1.symm)).trans hpl
    have k3 := hb.set 3 (.int .i32 1)
    have k5 : Blk ((w1.setCell ⟨M, 3, none⟩ (.int .i32 1)).drew.setCell ⟨M, 5, none⟩ (.int .u32 1)) M (((memV L ws.length false).setIfInBounds 3 (.int .i32 1)).setIfInBounds 5 (.int .u32 1)) 59 := Blk.set (w := (w1.setCell ⟨M, 3, none⟩ (.int .i32 1)).drew) k3 5 (.int .u32 1)
    have hF := hide (do_first M 2 ⟨w.heap.size, 0, none⟩ (fun w2 => w2 = (w1.setCell ⟨M, 3, none⟩ (.int .i32 1)).drew.setCell ⟨M, 5, none⟩ (.int .u32 1)) w1 (hb.cell rfl) (hb.cell rfl) (hb.free 2) (hb.free 3)
      (hide (mfz_any ⟨w.heap.size, 0, none⟩ M (.int .u32 0) _ c3 (k3.cell rfl) (k3.free 5)))
      (hide (fun w2 e => by subst e; exact ⟨k5.cell rfl, k5.cell rfl, k5.free 2, k5.free 3⟩)))
    have HBL := hide k5
    have HH := hide hh
    have HC := hide hC
    clear hb hh hC h1 A1 K1 hpl c3 k3 k5
    go_enter Tryd.func13, Tryd.ntmps13
    go_wp2_with fail
    rw [← hw1]
    clear hw1
    refine hF.out.mono ?_
    rintro e w3 ⟨rfl, w2, rfl, rfl⟩
    clear hF
    generalize hg : (((w1.setCell ⟨M, 3, none⟩ (.int .i32 1)).drew.setCell ⟨M, 5, none⟩ (.int .u32 1)).drew.setCell ⟨M, 2, none⟩ (.int .u32 1)).setCell ⟨M, 2 + 1, none⟩ (.int .i32 0) = w4 at *
    have HG := hide hg
    clear hg
    go_wp2
    go_end0
    have q1 : Blk w4 M (memV L ws.length true) 59 := by
      rw [← HG.out, ← memV_true]
      have q0 : Blk (((w1.setCell ⟨M, 3, none⟩ (.int .i32 1)).drew.setCell ⟨M, 5, none⟩ (.int .u32 1)).drew) M (((memV L ws.length false).setIfInBounds 3 (.int .i32 1)).setIfInBounds 5 (.int .u32 1)) 59 := HBL.out
      exact (q0.set 2 (.int .u32 1)).set 3 (.int .i32 0)
    have q2 : Ch (fun b => b = M) w1 w4 := by
      rw [← HG.out]
      refine Ch.trans ?_ (Ch.set _ ⟨M, 2 + 1, none⟩ (.int .i32 0) rfl)
      refine Ch.trans ?_ (Ch.set _ ⟨M, 2, none⟩ (.int .u32 1) rfl)
      refine Ch.trans ?_ (Ch.of (Below.refl _ _).drew)
      refine Ch.trans ?_ (Ch.set _ ⟨M, 5, none⟩ (.int .u32 1) rfl)
      refine Ch.trans ?_ (Ch.of (Below.refl _ _).drew)
      exact Ch.set w1 ⟨M, 3, none⟩ (.int .i32 1) rfl
    refine ⟨rfl, ⟨fun b hb => ?_, .inl HM.out.base, L, C, q1, HH.out.ch q2 (fun b hb e => (HC.out b hb).2 e), fun b hb => ⟨.inl (HC.out b hb).1, (HC.out b hb).2⟩⟩, ?_⟩
    · rcases hb with hb | hb
      · exact Nat.lt_of_lt_of_le (HM.out.lt b hb) q2.size
      · exact hb.2
    · exact (Ch.of B1.out).trans (q2.mono fun i _ e => by rw [e]; exact HM.out.base)

theorem Is.ch {P : Nat → Prop} {w w' : World} {a : Option Addr} {len cap : Nat} {l : List It} (h : Is w a len cap l) (hc : Ch P w w') (hn : 0 < len → ∀ x, a = some x → ¬ P x.block) : Is w' a len cap l := by
  refine ⟨h.1, h.2.1, h.2.2.1, fun h0 => ?_⟩
  obtain ⟨b, off, ho, hcell⟩ := h.2.2.2 h0
  exact ⟨b, off, ho, fun i x hi => (hcell i x hi).ch hc (hn h0 _ ho)⟩
theorem all_take (l : List It) (k : Nat) (x : It) (hx : l[k]? = some x) (h : (l.take k).all It.ok = true) (hx' : x.ok = true) : (l.take (k + 1)).all It.ok = true := by
  rw [List.take_add_one, hx, List.all_append, h]; simp [hx']
theorem all_bad (l : List It) (k : Nat) (x : It) (hx : l[k]? = some x) (hx' : x.ok = false) : l.all It.ok = false := by
  rw [Bool.eq_false_iff]
  intro h
  rw [List.all_eq_true.1 h x (List.mem_of_getElem? hx)] at hx'; cases hx'

set_option maxRecDepth 100000 in
set_option maxHeartbeats 1600000 in
theorem mallok_any (a : Option Addr) (n c : Nat) (l : List It) (w : World) (h : Is w a n c l) (hn : n ≤ 9223372036854775807) :
    Calls Tryd.prog 21 #[.slice a n c] w fun e w' => e = .returned (.bool (l.all It.ok)) ∧ Below w.heap.size w w' := by
  have hl := h.1
  have H0 := hide (fun W (hW : Below w.heap.size w W) => h.below hW (Nat.le_refl _))
  clear h
  go_enter Tryd.func21, Tryd.ntmps21
  go_wp2_with fail
  go_loopw [7] (fun i wr => ∃ k : Nat, k ≤ n ∧ i = .int .i64 k ∧ Hid ((l.take k).all It.ok = true) ∧ Hid (Below w.heap.size w wr)) (fun i _ => n - (intOf i).toNat)
  case atStart => exact ⟨0, by omega, rfl, hide (by simp), hide (Below.refl _ _)⟩
  case round =>
    obtain ⟨k, hk, rfl, hok, hbel⟩ := hrel
    by_cases hlt : k < n
    · obtain ⟨b0, off, ea, hc⟩ := (H0.out _ hbel.out).2.2.2 (by omega)
      subst ea
      obtain ⟨x, hx⟩ : ∃ x, l[k]? = some x := ⟨_, List.getElem?_eq_getElem (by rw [hl]; exact hlt)⟩
      have hv := hc k x hx
      have hbad := hide (fun h : x.ok = false => all_bad l k x hx h)
      have hgood := hide (fun h : x.ok = true => all_take l k x hx hok.out h)
      obtain ⟨S, K, T, V, X⟩ := x
      unfold Vt Vi at hv
      simp only at hv
      obtain ⟨v0, v1, v2, v3, v4⟩ := hv
      have HB := hide (hbel.out.alloc hbel.out.size (Obj.cells #[Value.int IntKind.i64 S, Value.int IntKind.i64 K, Value.int IntKind.u64 T, Value.int IntKind.u64 V, Value.int IntKind.i64 X] 32))
      clear hc hx
      go_wp2_with fail
      refine (ok_any S K T V X _).mono ?_
      obtain ⟨o, ho⟩ : ∃ o, okI S K T V X = o := ⟨_, rfl⟩
      rw [ho]
      have HO := hide ho
      clear ho
      rintro e w1 ⟨rfl, b1⟩
      have HB1 := hide (bmore HB.out b1)
      clear b1 HB v0 v1 v2 v3 v4
      cases o with
      | false =>
        go_wp2
        go_ret
        exact ⟨by rw [hbad.out HO.out]; rfl, HB1.out⟩
      | true =>
        go_wp2
        go_roundw
        case rel => first | exact ⟨k + 1, by omega, by go_num, hide (hgood.out HO.out), HB1⟩ | ((repeat apply Exists.intro); exact ⟨⟨k + 1, by omega, by go_num, hide (hgood.out HO.out), HB1⟩, rfl⟩)
        case measure => simp [intOf]; omega
    · obtain rfl : k = n := by omega
      have hok' := hide (show l.all It.ok = true by have := hok.out; rwa [List.take_of_length_le (by omega)] at this)
      go_wp2
      go_ret
      exact ⟨by rw [hok'.out]; rfl, hbel.out⟩

/-- What Apply makes of the items, one behind the other. -/
def putAll : List It → List (It × Nat) → List (It × Nat)
  | [], ws => ws
  | x :: r, ws => putAll r (putA x (hgt x.S x.K x.T : Nat) ws).2
theorem putAll_append (a b : List It) : ∀ ws, putAll (a ++ b) ws = putAll b (putAll a ws) := by
  induction a with
  | nil => intro ws; rfl
  | cons x r ih => intro ws; exact ih _
theorem putAll_take (l : List It) (k : Nat) (x : It) (hx : l[k]? = some x) (ws : List (It × Nat)) : putAll (l.take (k + 1)) ws = (putA x (hgt x.S x.K x.T : Nat) (putAll (l.take k) ws)).2 := by
  rw [List.take_add_one, hx, putAll_append]; rfl
theorem putAll_len : ∀ (l : List It) (ws : List (It × Nat)), (putAll l ws).length ≤ ws.length + l.length
  | [], ws => by simp [putAll]
  | x :: r, ws => by
    have h1 := putAll_len r (putA x (hgt x.S x.K x.T : Nat) ws).2
    have h2 := putA_len x (hgt x.S x.K x.T : Nat) ws
    show (putAll r _).length ≤ _
    simp only [List.length_cons]
    omega
theorem putW_ge (x : It) (h : Nat) : ∀ ws : List (It × Nat), ws.length ≤ (putW x h ws).2.length
  | [] => by simp [putW]
  | (y, g) :: r => by
    have := putW_ge x h r
    unfold putW
    split
    · simp; omega
    · split
      · split <;> simp
      · simp
theorem putA_ge (x : It) (n : Int) (ws : List (It × Nat)) : ws.length ≤ (putA x n ws).2.length := by
  unfold putA
  split
  · exact putW_ge x n.toNat ws
  · simp
theorem putAll_ge : ∀ (l : List It) (ws : List (It × Nat)), ws.length ≤ (putAll l ws).length
  | [], ws => by simp [putAll]
  | x :: r, ws => Nat.le_trans (putA_ge x _ ws) (putAll_ge r _)
/-- What Apply answers, and what it makes of the items. -/
def applyE (fr : Bool) (l : List It) : Int := if fr then 14 else if l.all It.ok then 0 else 1
def applyW (fr : Bool) (l : List It) (ws : List (It × Nat)) : List (It × Nat) := if fr then ws else if l.all It.ok then putAll l ws else ws
theorem applyW_len (fr : Bool) (l : List It) (ws : List (It × Nat)) : (applyW fr l ws).length ≤ ws.length + l.length := by
  unfold applyW
  split
  · omega
  · split
    · exact putAll_len l ws
    · omega

/-- A Mem while the first k of l have been laid to it. -/
structure Ap (w wr : World) (M L n0 : Nat) (C : Nat → Prop) (l : List It) (k : Nat) (ws : List (It × Nat)) : Prop where
  blk : Blk wr M (memV L n0 false) 59
  held : Held wr L (fun b => C b ∨ (w.heap.size ≤ b ∧ b < wr.heap.size)) (putAll (l.take k) ws)
  ch : Ch C w wr

end Go.Proofs.YtjpoahnecbefaaaDoor.Clep
