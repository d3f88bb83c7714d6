/- What the statements' own function awake does when called: true. No conditions. -/
import Derived.Test.YtodhljiboakjnaaGreatQf
import Derived.Test.YtodhljiboakjnaaGreatQj
namespace Go.Proofs.YtodhljiboakjnaaGreat.Clep
open Go.RowKit
set_option linter.unusedVariables false

def x0 : It := ⟨1, 2, 0, 2, 0⟩
theorem x0_tok : TOk [x0] := ⟨by simp, by intro x hx; rw [List.mem_singleton.1 hx]; decide, by
  intro x hx
  rw [List.mem_singleton.1 hx]
  unfold It.wf x0
  decide, by simp⟩
theorem x0_fd : fd [x0] x0 = some x0 := by
  simp [fd, It.same, sameI]
set_option maxRecDepth 100000 in
set_option maxHeartbeats 2000000 in
theorem awake_core (w : World) (l : List It) (hT : TOk l) (hl1 : l.length = 1) (hfd : fd l x0 = some x0) (hmay : mayT l x0 = true)
    (hone : ∀ w1 : World, Is (w1.alloc (Obj.cells #[.int .i64 1, .int .i64 2, .int .u64 0, .int .u64 2, .int .i64 0] 25)) (some ⟨w1.heap.size, 0, none⟩) 1 1 l) :
    Calls Tryz.prog 9 #[] w fun e w' => e = .returned (.bool true) ∧ Below w.heap.size w w' := by
  have A0 := (Below.refl _ w).alloc (Nat.le_refl _) (Obj.cells #[Value.int IntKind.i64 1, Value.int IntKind.i64 2, Value.int IntKind.u64 0, Value.int IntKind.u64 2, Value.int IntKind.i64 0] 25)
  have X0 := vi_new w 1 2 0 2 0
  obtain ⟨w0, hw0⟩ : ∃ w0, w0 = w.alloc (Obj.cells #[Value.int IntKind.i64 1, Value.int IntKind.i64 2, Value.int IntKind.u64 0, Value.int IntKind.u64 2, Value.int IntKind.i64 0] 25) := ⟨_, rfl⟩
  have hs0 : w0.heap.size = w.heap.size + 1 := by rw [hw0]; simp
  rw [← hw0] at A0 X0
  have I1 := hone w0
  have A1 := (Below.refl _ w0).alloc (Nat.le_refl _) (Obj.cells #[Value.int IntKind.i64 1, Value.int IntKind.i64 2, Value.int IntKind.u64 0, Value.int IntKind.u64 2, Value.int IntKind.i64 0] 25)
  obtain ⟨w1, hw1⟩ : ∃ w1, w1 = w0.alloc (Obj.cells #[Value.int IntKind.i64 1, Value.int IntKind.i64 2, Value.int IntKind.u64 0, Value.int IntKind.u64 2, Value.int IntKind.i64 0] 25) := ⟨_, rfl⟩
  rw [← hw1] at A1 I1
  rw [hs0] at I1
  have hM := hide (make_ok _ 1 1 l w1 I1 hT (by omega))
  have AA := hide (bmore A0 A1)
  have HX := hide (X0.keep A1)
  have HT := hide hT
  have HF := hide hfd
  have HMy := hide hmay
  clear A0 A1 X0 I1 hs0 hone hT hfd hmay
  go_enter Tryz.func9, Tryz.ntmps9
  go_wp2_with fail
  rw [← hw0, ← hw1]
  clear hw0 hw1
  obtain ⟨R, hR⟩ : ∃ R, R = w.heap.size := ⟨_, rfl⟩
  rw [← hR] at hM HX ⊢
  clear hR
  refine hM.out.mono ?_
  rintro e w2 ⟨v2, rfl, ho2, hb2⟩
  obtain ⟨a2, c2, rfl, -, hbs2, -⟩ := own_at0 ho2 (tb_range HT.out)
  have hL2 := (tb_len HT.out).2
  have hRd := tread_any a2 (tb l).length c2 (tb l) w2 hbs2 (by omega)
  rw [isT_tb HT.out, bg_tb HT.out] at hRd
  have HRd := hide hRd
  have B2 := hide (bmore AA.out hb2)
  have HX2 := hide (HX.out.keep hb2)
  generalize (tb l).length = L at *
  clear hM ho2 hbs2 hb2 hRd hL2
  go_wp2_with fail
  refine HRd.out.mono ?_
  rintro e w3 ⟨hb3, ⟨hno, -⟩ | ⟨-, M, rfl, ht3, hM3⟩⟩
  · cases hno
  have B3 := hide (bmore B2.out hb3)
  have HX3 := hide (HX2.out.keep hb3)
  have hG := hide (tget_any w3 M 0 _ l ht3 x0 (by unfold It.wf x0; decide))
  rw [HF.out] at hG
  have HMl : Hid (M < w3.heap.size) := hide (ht3.lt M ht3.base)
  have hx := HX3.out
  unfold Vi at hx
  simp only [Nat.zero_add] at hx
  obtain ⟨x0', x1, x2, x3, x4⟩ := hx
  have hRM : Hid (R ≠ M ∧ w.heap.size ≤ M) := hide ⟨by have := HX2.out.lt; omega, by have := B2.out.size; omega⟩
  clear HRd hb3 ht3
  go_wp2_with fail
  refine hG.out.mono ?_
  rintro e w4 ⟨rfl, ⟨d4, ht4⟩, hc4⟩
  have B4 : Hid (Below w.heap.size w w4) := hide (Clep.Below.ch B3.out hc4 B3.out.size (fun i hi => by rw [hi]; exact hRM.out.2))
  have HX4 := hide (HX3.out.ch hc4 hRM.out.1)
  have A5 := (Below.refl _ w4).alloc (Nat.le_refl _) (Obj.cells #[Value.int IntKind.i64 1, Value.int IntKind.i64 2, Value.int IntKind.u64 0, Value.int IntKind.u64 2, Value.int IntKind.i64 0] 25)
  have X5 := vi_new w4 1 2 0 2 0
  obtain ⟨w5, hw5⟩ : ∃ w5, w5 = w4.alloc (Obj.cells #[Value.int IntKind.i64 1, Value.int IntKind.i64 2, Value.int IntKind.u64 0, Value.int IntKind.u64 2, Value.int IntKind.i64 0] 25) := ⟨_, rfl⟩
  rw [← hw5] at A5 X5
  have hLn := tlen_any w5 M d4 _ l (ht4.keep A5)
  rw [hl1] at hLn
  have HLn := hide hLn
  have hMy := tmay_any w5 M d4 _ l (ht4.keep A5) x0 (by unfold It.wf x0; decide)
  rw [HMy.out] at hMy
  have HMy2 := hide hMy
  have B5 := hide (bmore B4.out A5)
  have hx5 := HX4.out.keep A5
  unfold Vi at hx5 X5
  simp only [Nat.zero_add] at hx5 X5
  obtain ⟨g0, g1, g2, g3, g4⟩ := hx5
  obtain ⟨y0, y1, y2, y3, y4⟩ := X5
  clear hG ht4 hc4 A5 hLn hMy x0' x1 x2 x3 x4
  rw [show (cv ((some x0).getD oz)).toArray = #[Value.int IntKind.i64 1, Value.int IntKind.i64 2, Value.int IntKind.u64 0, Value.int IntKind.u64 2, Value.int IntKind.i64 0] from rfl]
  go_wp2_with fail
  rw [← hw5]
  clear hw5
  generalize w4.heap.size = R6 at *
  refine HLn.out.mono ?_
  rintro e w6 ⟨rfl, rfl⟩
  clear HLn
  go_wp2_with fail
  refine HMy2.out.mono ?_
  rintro e w7 ⟨rfl, hb7⟩
  have B7 := hide (bmore B5.out hb7)
  clear HMy2 hb7
  go_wp2
  go_ret
  exact ⟨rfl, B7.out⟩
theorem qawake_any (w : World) : Calls Tryz.prog 9 #[] w fun e w' => e = .returned (.bool true) ∧ Below w.heap.size w w' :=
  awake_core w [x0] x0_tok rfl x0_fd (may_mem (by simp)) (fun w1 => is_one w1 1 2 0 2 0 (by unfold It.wf; decide))

end Go.Proofs.YtodhljiboakjnaaGreat.Clep
