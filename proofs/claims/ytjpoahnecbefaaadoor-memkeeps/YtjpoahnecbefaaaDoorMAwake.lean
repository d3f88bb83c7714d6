/- What the statements' own awake does when called. Conditions: the table of math/bits reads as its initialiser lays it. -/
import Derived.Test.YtjpoahnecbefaaaDoorMApplyW
import Derived.Test.YtjpoahnecbefaaaDoorSVx
namespace Go.Proofs.YtjpoahnecbefaaaDoor.Clep
open Go.RowKit
set_option linter.unusedVariables false

theorem put1 (x : It) (hx : x.ok = true) : applyW false [x] [] = [(x, hgt x.S x.K x.T)] := by
  have h := hgt_le x.S x.K x.T
  have e : (x :: []).all It.ok = true := by simp [hx]
  unfold applyW
  rw [if_neg Bool.false_ne_true, if_pos e]
  show (putA x (hgt x.S x.K x.T : Nat) []).2 = _
  unfold putA
  rw [if_pos ⟨hx, by omega, by omega⟩]
  show (putW x ((hgt x.S x.K x.T : Nat) : Int).toNat []).2 = _
  rw [Int.toNat_natCast]
  rfl

set_option maxRecDepth 100000 in
set_option maxHeartbeats 1600000 in
theorem mawake_any (w : World) (hT : Tab w) : Calls Tryd.prog 8 #[] w fun e w' => e = .returned (.bool true) ∧ Below w.heap.size w w' := by
  have C1 := hide (mnew_h w)
  have hT0 := hide hT
  have h0w := hide hT.lt
  clear hT
  go_enter Tryd.func8, Tryd.ntmps8
  go_wp2_with fail
  refine C1.out.mono ?_
  rintro e w1 ⟨M, rfl, hm, hb⟩
  have HM := hide hm
  have HB := hide hb
  clear hm hb C1
  obtain ⟨R, hR⟩ : ∃ R, R = w1.heap.size := ⟨_, rfl⟩
  obtain ⟨w3, hw3⟩ : ∃ w3, w3 = (w1.alloc (Obj.cells #[Value.int IntKind.i64 1, Value.int IntKind.i64 2, Value.int IntKind.u64 0, Value.int IntKind.u64 2, Value.int IntKind.i64 0] 32)).alloc (Obj.cells #[Value.int IntKind.i64 1, Value.int IntKind.i64 2, Value.int IntKind.u64 0, Value.int IntKind.u64 2, Value.int IntKind.i64 0] 32) := ⟨_, rfl⟩
  have a2 := (Below.refl _ w1).alloc (Nat.le_refl _) (Obj.cells #[Value.int IntKind.i64 1, Value.int IntKind.i64 2, Value.int IntKind.u64 0, Value.int IntKind.u64 2, Value.int IntKind.i64 0] 32)
  have a3 := (Below.refl _ (w1.alloc (Obj.cells #[Value.int IntKind.i64 1, Value.int IntKind.i64 2, Value.int IntKind.u64 0, Value.int IntKind.u64 2, Value.int IntKind.i64 0] 32))).alloc (Nat.le_refl _) (Obj.cells #[Value.int IntKind.i64 1, Value.int IntKind.i64 2, Value.int IntKind.u64 0, Value.int IntKind.u64 2, Value.int IntKind.i64 0] 32)
  have vx := (vx_new w1 1 2 0 2 0).keep a3
  have is3 := is_one (w1.alloc (Obj.cells #[Value.int IntKind.i64 1, Value.int IntKind.i64 2, Value.int IntKind.u64 0, Value.int IntKind.u64 2, Value.int IntKind.i64 0] 32)) 1 2 0 2 0 (it_wf _ _ _ _ _ (by decide))
  have hsz : (w1.alloc (Obj.cells #[Value.int IntKind.i64 1, Value.int IntKind.i64 2, Value.int IntKind.u64 0, Value.int IntKind.u64 2, Value.int IntKind.i64 0] 32)).heap.size = w1.heap.size + 1 := by simp
  have hs3 : w3.heap.size = R + 2 := by rw [hw3, hR]; simp
  rw [hsz, ← hR, ← hw3] at is3
  have A3 := bmore a2 a3
  rw [← hw3] at A3 a3 vx
  rw [← hR] at vx
  have hw1s := HB.out.size
  have BB3 := hide (bmore HB.out A3)
  have M3 := hide (HM.out.keep A3)
  have VX3 := hide vx
  obtain ⟨P3, hP3⟩ : ∃ P : Nat → Prop, P = fun b => w.heap.size ≤ b ∧ b < w1.heap.size := ⟨_, rfl⟩
  rw [← hP3] at M3
  have HP3w : Hid (∀ b, P3 b → w.heap.size ≤ b) := hide fun b hb => by rw [hP3] at hb; exact hb.1
  have HP3l : Hid (∀ b, P3 b → b < R) := hide fun b hb => by rw [hP3] at hb; rw [hR]; exact hb.2
  have C3 := hide (mapply_h w3 M P3 false [] (some ⟨R + 1, 0, none⟩) 1 1 [⟨1, 2, 0, 2, 0⟩] M3.out is3 (by omega) (by simp) (fun _ x hx e => by cases hx; have := HP3l.out _ e; simp only at this; omega) ((hT0.out.keep HB.out).keep A3) (fun e => by have := HP3w.out _ e; have := h0w.out; omega))
  rw [show applyE false [⟨1, 2, 0, 2, 0⟩] = 0 from rfl, put1 ⟨1, 2, 0, 2, 0⟩ rfl] at C3
  have hl4 : [((⟨1, 2, 0, 2, 0⟩ : It), hgt 1 2 0)].length = 1 := rfl
  generalize [((⟨1, 2, 0, 2, 0⟩ : It), hgt 1 2 0)] = ws4 at *
  have HL4 := hide hl4
  have HRw := hide (show w.heap.size ≤ R by omega)
  have HS3 := hide hs3
  have T3 := hide ((hT0.out.keep HB.out).keep A3)
  clear a2 a3 vx is3 hsz hs3 A3 hP3 hw1s hl4
  go_wp2_with fail
  rw [← hR, ← hw3]
  clear hw3 hR HM HB
  refine C3.out.mono ?_
  rintro e w4 ⟨rfl, hm, hc⟩
  have HM4 := hide hm
  have BB4 := hide (Below.ch BB3.out hc BB3.out.size HP3w.out)
  have VX4 := hide (VX3.out.ch hc (fun e => by have := HP3l.out _ e; omega))
  have T4 := hide (T3.out.ch hc (fun e => by have := HP3w.out _ e; have := h0w.out; omega))
  obtain ⟨P4, hP4⟩ : ∃ P : Nat → Prop, P = fun b => P3 b ∨ w3.heap.size ≤ b ∧ b < w4.heap.size := ⟨_, rfl⟩
  rw [← hP4] at HM4
  have HP4w : Hid (∀ b, P4 b → w.heap.size ≤ b) := hide fun b hb => by rw [hP4] at hb; exact hb.elim (HP3w.out b) (fun e => by have := BB3.out.size; omega)
  have HP4R : Hid (¬ P4 R) := hide fun hb => by rw [hP4] at hb; exact hb.elim (fun e => by have := HP3l.out _ e; omega) (fun e => by have := HS3.out; omega)
  have C4 := hide (mfreeze_h w4 M P4 false ws4 HM4.out)
  clear hm hc hP4 C3 M3
  go_wp2_with fail
  refine C4.out.mono ?_
  rintro e w5 ⟨rfl, hm, hc⟩
  have HM5 := hide hm
  have BB5 := hide (Below.ch BB4.out hc BB4.out.size HP4w.out)
  have VX5 := hide (VX4.out.ch hc HP4R.out)
  have T5 := hide (T4.out.ch hc (fun e => by have := HP4w.out _ e; have := h0w.out; omega))
  obtain ⟨P5, hP5⟩ : ∃ P : Nat → Prop, P = fun b => P4 b ∨ w4.heap.size ≤ b ∧ b < w5.heap.size := ⟨_, rfl⟩
  rw [← hP5] at HM5
  have HP5w : Hid (∀ b, P5 b → w.heap.size ≤ b) := hide fun b hb => by rw [hP5] at hb; exact hb.elim (HP4w.out b) (fun e => by have := BB4.out.size; omega)
  obtain ⟨w6, hw6⟩ : ∃ w6, w6 = w5.alloc (Obj.cells #[Value.int IntKind.i64 1, Value.int IntKind.i64 2, Value.int IntKind.u64 0, Value.int IntKind.u64 2, Value.int IntKind.i64 0] 32) := ⟨_, rfl⟩
  obtain ⟨R5, hR5⟩ : ∃ R, R = w5.heap.size := ⟨_, rfl⟩
  have a6 := (Below.refl _ w5).alloc (Nat.le_refl _) (Obj.cells #[Value.int IntKind.i64 1, Value.int IntKind.i64 2, Value.int IntKind.u64 0, Value.int IntKind.u64 2, Value.int IntKind.i64 0] 32)
  have is6 := is_one w5 1 2 0 2 0 (it_wf _ _ _ _ _ (by decide))
  rw [← hw6] at a6 is6
  rw [← hR5] at is6
  have BB6 := hide (bmore BB5.out a6)
  have C6 := hide (mapply_h w6 M P5 true ws4 (some ⟨R5, 0, none⟩) 1 1 [⟨1, 2, 0, 2, 0⟩] (HM5.out.keep a6) is6 (by omega) (by rw [HL4.out]; omega) (fun _ x hx e => by cases hx; have := HM5.out.lt _ e; simp only at this; omega) (T5.out.keep a6) (fun e => by have := HP5w.out _ e; have := h0w.out; omega))
  rw [show applyE true [⟨1, 2, 0, 2, 0⟩] = 14 from rfl, show applyW true [⟨1, 2, 0, 2, 0⟩] ws4 = ws4 from rfl] at C6
  have gx := VX5.out
  unfold Vx Vi Vf at gx
  simp only [Nat.zero_add] at gx
  obtain ⟨⟨y0, y1, y2, y3, y4⟩, -⟩ := gx
  clear hm hc hP5 C4 a6 is6
  go_wp2_with fail
  rw [← hR5, ← hw6]
  clear hw6 hR5 y0 y1 y2 y3 y4
  refine C6.out.mono ?_
  rintro e w7 ⟨rfl, hm, hc⟩
  have BB7 := hide (Below.ch BB6.out hc BB6.out.size HP5w.out)
  have CF := hide (mfrozen_h w7 M _ true ws4 hm)
  have CL := hide (mlen_h w7 M _ true ws4 hm)
  have CB := hide (mbytes_h w7 M _ true ws4 hm (by rw [HL4.out]; omega))
  rw [HL4.out] at CL CB
  clear hm hc C6
  go_wp2_with fail
  refine CF.out.mono ?_
  rintro e w8 ⟨rfl, rfl⟩
  go_wp2_with fail
  refine CL.out.mono ?_
  rintro e w9 ⟨rfl, rfl⟩
  go_wp2_with fail
  refine CB.out.mono ?_
  rintro e w10 ⟨rfl, rfl⟩
  go_wp2
  go_ret
  exact ⟨rfl, BB7.out⟩

end Go.Proofs.YtjpoahnecbefaaaDoor.Clep
