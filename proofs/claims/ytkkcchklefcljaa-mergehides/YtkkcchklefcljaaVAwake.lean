/- What the statements' own function awake does when called: it answers true. No conditions. -/
import Derived.Test.YtkkcchklefcljaaVLRows
namespace Go.Proofs.Ytkkcchklefcljaa.Clep
open Go.RowKit
set_option linter.unusedVariables false

def xa : It := ⟨1, 2, 0, 2, 0⟩
def xb : It := ⟨2, 2, 0, 2, 0⟩
theorem xa_wf : xa.wf := by unfold It.wf xa; simp
theorem xb_wf : xb.wf := by unfold It.wf xb; simp
theorem rise_one (x : It) : Rise [x] := by unfold Rise; simp
theorem mrg_ba {L : List It} (h : Mrg [[xb], [xa]] L) : L = [xa, xb] := by
  have hr : ∀ l ∈ [[xb], [xa]], Rise l := fun l hl => by
    simp only [List.mem_cons, List.not_mem_nil, or_false] at hl
    rcases hl with rfl | rfl <;> exact rise_one _
  exact (bst_unique (h.bst hr) ((mrg_mg (mrg_one [xb]) (mrg_one [xa])).bst hr)).trans (by kernel_rfl)
theorem rws_two {w : World} {b : Nat} {s t : Sl} (hs : Is w s.a s.n s.c s.l ∧ s.n ≤ 9223372036854775807) (ht : Is w t.a t.n t.c t.l ∧ t.n ≤ 9223372036854775807) (h : w.heap[b]? = some (.cells #[.slice s.a s.n s.c, .slice t.a t.n t.c] 25)) : Rws w (some ⟨b, 0, none⟩) 2 2 [s, t] := by
  refine ⟨rfl, ⟨Nat.le_refl _, fun h => by cases h⟩, fun z hz => ?_, fun _ => ⟨b, 0, rfl, fun i z hi => ?_⟩⟩
  · simp only [List.mem_cons, List.not_mem_nil, or_false] at hz
    rcases hz with rfl | rfl
    · exact hs
    · exact ht
  · match i, hi with
    | 0, hi => simp at hi; subst hi; simp [World.cell?, h]
    | 1, hi => simp at hi; subst hi; simp [World.cell?, h]
    | i + 2, hi => simp at hi
set_option maxRecDepth 100000 in
set_option maxHeartbeats 4000000 in
theorem vawake_any (w : World) : Calls Try.prog 18 #[] w fun e w' => e = .returned (.bool true) ∧ Below w.heap.size w w' := by
  have A0 := (Below.refl _ w).alloc (Nat.le_refl _) (Obj.cells #[.int .i64 1, .int .i64 2, .int .u64 0, .int .u64 2, .int .i64 0] 36)
  have V0 := vi_new w 1 2 0 2 0
  obtain ⟨w1, hw1⟩ : ∃ w1, w1 = w.alloc (Obj.cells #[.int .i64 1, .int .i64 2, .int .u64 0, .int .u64 2, .int .i64 0] 36) := ⟨_, rfl⟩
  have hs1 : w1.heap.size = w.heap.size + 1 := by rw [hw1]; simp
  rw [← hw1] at A0 V0
  have A1 := (Below.refl _ w1).alloc (Nat.le_refl _) (Obj.cells #[.int .i64 2, .int .i64 2, .int .u64 0, .int .u64 2, .int .i64 0] 36)
  have V1 := vi_new w1 2 2 0 2 0
  obtain ⟨w2, hw2⟩ : ∃ w2, w2 = w1.alloc (Obj.cells #[.int .i64 2, .int .i64 2, .int .u64 0, .int .u64 2, .int .i64 0] 36) := ⟨_, rfl⟩
  have hs2 : w2.heap.size = w.heap.size + 1 + 1 := by rw [hw2]; simp [hs1]
  rw [← hw2] at A1 V1
  have A2 := (Below.refl _ w2).alloc (Nat.le_refl _) (Obj.cells #[.int .i64 2, .int .i64 2, .int .u64 0, .int .u64 2, .int .i64 0] 36)
  have I2 := is_one w2 2 2 0 2 0 xb_wf
  obtain ⟨w3, hw3⟩ : ∃ w3, w3 = w2.alloc (Obj.cells #[.int .i64 2, .int .i64 2, .int .u64 0, .int .u64 2, .int .i64 0] 36) := ⟨_, rfl⟩
  have hs3 : w3.heap.size = w.heap.size + 1 + 1 + 1 := by rw [hw3]; simp [hs2]
  rw [← hw3] at A2 I2
  have A3 := (Below.refl _ w3).alloc (Nat.le_refl _) (Obj.cells #[.int .i64 1, .int .i64 2, .int .u64 0, .int .u64 2, .int .i64 0] 36)
  have I3 := is_one w3 1 2 0 2 0 xa_wf
  obtain ⟨w4, hw4⟩ : ∃ w4, w4 = w3.alloc (Obj.cells #[.int .i64 1, .int .i64 2, .int .u64 0, .int .u64 2, .int .i64 0] 36) := ⟨_, rfl⟩
  have hs4 : w4.heap.size = w.heap.size + 1 + 1 + 1 + 1 := by rw [hw4]; simp [hs3]
  rw [← hw4] at A3 I3
  have A4 := (Below.refl _ w4).alloc (Nat.le_refl _) (Obj.cells #[.slice (some ⟨w.heap.size + 1 + 1, 0, none⟩) 1 1, .slice (some ⟨w.heap.size + 1 + 1 + 1, 0, none⟩) 1 1] 25)
  have K4 := hpS w4 (Obj.cells #[.slice (some ⟨w.heap.size + 1 + 1, 0, none⟩) 1 1, .slice (some ⟨w.heap.size + 1 + 1 + 1, 0, none⟩) 1 1] 25) w4.heap.size rfl
  obtain ⟨w5, hw5⟩ : ∃ w5, w5 = w4.alloc (Obj.cells #[.slice (some ⟨w.heap.size + 1 + 1, 0, none⟩) 1 1, .slice (some ⟨w.heap.size + 1 + 1 + 1, 0, none⟩) 1 1] 25) := ⟨_, rfl⟩
  rw [← hw5] at A4 K4
  rw [hs1] at V1
  rw [hs2] at I2
  rw [hs3] at I3
  rw [hs4] at K4
  have R5 := rws_two (s := ⟨some ⟨w.heap.size + 1 + 1, 0, none⟩, 1, 1, [xb]⟩) (t := ⟨some ⟨w.heap.size + 1 + 1 + 1, 0, none⟩, 1, 1, [xa]⟩) ⟨I2.below (bmore A3 A4) (Nat.le_refl _), by show 1 ≤ _; omega⟩ ⟨I3.below A4 (Nat.le_refl _), by show 1 ≤ _; omega⟩ K4
  have CR := hide (mrows_any 2 _ 2 2 _ w5 (by omega) R5 (by omega) (by omega) (by simp [sumL]))
  have B5 := hide (bmore A0 (bmore A1 (bmore A2 (bmore A3 A4))))
  have HVA := hide (V0.keep (bmore A1 (bmore A2 (bmore A3 A4))))
  have HVB := hide (V1.keep (bmore A2 (bmore A3 A4)))
  clear A0 A1 A2 A3 A4 V0 V1 I2 I3 K4 R5 hs1 hs2 hs3 hs4
  go_enter Try.func18, Try.ntmps18
  go_wp2_with fail
  rw [← hw1, ← hw2, ← hw3, ← hw4, ← hw5]
  clear hw1 hw2 hw3 hw4 hw5
  obtain ⟨R, hR⟩ : ∃ R, w.heap.size = R := ⟨_, rfl⟩
  rw [hR] at HVA HVB CR ⊢
  refine CR.out.mono ?_
  rintro e w6 ⟨L, a6, n6, c6, rfl, rs, hb6, ho6⟩
  obtain rfl := mrg_ba rs.mrg
  obtain rfl : 2 = n6 := rs.is.1
  obtain ⟨b, off, rfl, hcell⟩ := rs.is.2.2.2 (by omega)
  have VA := hide (hcell 0 xa rfl)
  have VB := hide (hcell 1 xb rfl)
  have B6 := hide (bmore B5.out hb6)
  replace HVA := hide (HVA.out.keep hb6)
  replace HVB := hide (HVB.out.keep hb6)
  unfold xa Vt at VA
  unfold xb Vt at VB
  simp only [Nat.zero_mul, Nat.add_zero, Nat.one_mul] at VA VB
  clear CR rs ho6 hcell hb6 hR B5
  have HK : Hid (∀ W, Below w6.heap.size w6 W → (Below w6.heap.size w6 W ∧ (W.cell? ⟨b, off, none⟩ = some (.int .i64 1) ∧ W.cell? ⟨b, off + 1, none⟩ = some (.int .i64 2) ∧ W.cell? ⟨b, off + 2, none⟩ = some (.int .u64 0) ∧ W.cell? ⟨b, off + 3, none⟩ = some (.int .u64 2) ∧ W.cell? ⟨b, off + 4, none⟩ = some (.int .i64 0)) ∧ (W.cell? ⟨b, off + 5, none⟩ = some (.int .i64 2) ∧ W.cell? ⟨b, off + 5 + 1, none⟩ = some (.int .i64 2) ∧ W.cell? ⟨b, off + 5 + 2, none⟩ = some (.int .u64 0) ∧ W.cell? ⟨b, off + 5 + 3, none⟩ = some (.int .u64 2) ∧ W.cell? ⟨b, off + 5 + 4, none⟩ = some (.int .i64 0)) ∧ (W.cell? ⟨R, 0, none⟩ = some (.int .i64 1) ∧ W.cell? ⟨R, 1, none⟩ = some (.int .i64 2) ∧ W.cell? ⟨R, 2, none⟩ = some (.int .u64 0) ∧ W.cell? ⟨R, 3, none⟩ = some (.int .u64 2) ∧ W.cell? ⟨R, 4, none⟩ = some (.int .i64 0)) ∧ (W.cell? ⟨R + 1, 0, none⟩ = some (.int .i64 2) ∧ W.cell? ⟨R + 1, 1, none⟩ = some (.int .i64 2) ∧ W.cell? ⟨R + 1, 2, none⟩ = some (.int .u64 0) ∧ W.cell? ⟨R + 1, 3, none⟩ = some (.int .u64 2) ∧ W.cell? ⟨R + 1, 4, none⟩ = some (.int .i64 0)))) := hide fun W hW => by
    have q1 := VA.out.keep hW
    have q2 := VB.out.keep hW
    have q3 := HVA.out.keep hW
    have q4 := HVB.out.keep hW
    unfold Vi at q1 q2 q3 q4
    simp only [Nat.zero_add] at q3 q4
    exact ⟨hW, q1, q2, q3, q4⟩
  have hC : ∀ p q : Nat, (((w6.alloc (Obj.cells #[Value.int IntKind.i64 1, Value.int IntKind.i64 2, Value.int IntKind.u64 0, Value.int IntKind.u64 2, Value.int IntKind.i64 0] 36)).alloc (Obj.cells #[Value.int IntKind.i64 1, Value.int IntKind.i64 2, Value.int IntKind.u64 0, Value.int IntKind.u64 2, Value.int IntKind.i64 0] 36)).drew).heap[p]? = some (Obj.cells #[Value.int IntKind.i64 1, Value.int IntKind.i64 2, Value.int IntKind.u64 0, Value.int IntKind.u64 2, Value.int IntKind.i64 0] 36) → (((w6.alloc (Obj.cells #[Value.int IntKind.i64 1, Value.int IntKind.i64 2, Value.int IntKind.u64 0, Value.int IntKind.u64 2, Value.int IntKind.i64 0] 36)).alloc (Obj.cells #[Value.int IntKind.i64 1, Value.int IntKind.i64 2, Value.int IntKind.u64 0, Value.int IntKind.u64 2, Value.int IntKind.i64 0] 36)).drew).heap[q]? = some (Obj.cells #[Value.int IntKind.i64 1, Value.int IntKind.i64 2, Value.int IntKind.u64 0, Value.int IntKind.u64 2, Value.int IntKind.i64 0] 36) → Calls Try.prog 23 #[.slice (some ⟨p, 0, none⟩) 1 1, .slice (some ⟨q, 0, none⟩) 1 1] (((w6.alloc (Obj.cells #[Value.int IntKind.i64 1, Value.int IntKind.i64 2, Value.int IntKind.u64 0, Value.int IntKind.u64 2, Value.int IntKind.i64 0] 36)).alloc (Obj.cells #[Value.int IntKind.i64 1, Value.int IntKind.i64 2, Value.int IntKind.u64 0, Value.int IntKind.u64 2, Value.int IntKind.i64 0] 36)).drew) fun e w' => e = .returned (.bool true) ∧ Below w6.heap.size w6 w' := fun p q hp hq =>
    (overlap_any _ _ 1 1 1 1 [xa] [xa] _ (is_block xa_wf hp) (is_block xa_wf hq) (by omega) (by omega)).mono fun e w' h => ⟨by rw [h.1, show ovl [xa] [xa] = true from ovl_self (rise_one _) (by simp)], bmore ((((Below.refl _ w6).alloc (Nat.le_refl _) _).alloc (by simp) _).drew) h.2⟩
  have z0 : (((w6.alloc (Obj.cells #[Value.int IntKind.i64 1, Value.int IntKind.i64 2, Value.int IntKind.u64 0, Value.int IntKind.u64 2, Value.int IntKind.i64 0] 36)).alloc (Obj.cells #[Value.int IntKind.i64 1, Value.int IntKind.i64 2, Value.int IntKind.u64 0, Value.int IntKind.u64 2, Value.int IntKind.i64 0] 36)).drew).heap[w6.heap.size]? = some (Obj.cells #[Value.int IntKind.i64 1, Value.int IntKind.i64 2, Value.int IntKind.u64 0, Value.int IntKind.u64 2, Value.int IntKind.i64 0] 36) := hpD (hpO _ (hpS w6 _ _ rfl))
  have z1 : (((w6.alloc (Obj.cells #[Value.int IntKind.i64 1, Value.int IntKind.i64 2, Value.int IntKind.u64 0, Value.int IntKind.u64 2, Value.int IntKind.i64 0] 36)).alloc (Obj.cells #[Value.int IntKind.i64 1, Value.int IntKind.i64 2, Value.int IntKind.u64 0, Value.int IntKind.u64 2, Value.int IntKind.i64 0] 36)).drew).heap[w6.heap.size + 1]? = some (Obj.cells #[Value.int IntKind.i64 1, Value.int IntKind.i64 2, Value.int IntKind.u64 0, Value.int IntKind.u64 2, Value.int IntKind.i64 0] 36) := hpD (hpS _ _ _ (by simp))
  have C1 := hide (hC _ _ z0 z1)
  have C2 := hide (hC _ _ z1 z0)
  clear hC z0 z1
  have hk0 : Below w6.heap.size w6 w6 := Below.refl _ _
  have hk1 : Below w6.heap.size w6 w6.drew := hk0.drew
  have g := HK.out _ hk0
  obtain ⟨-, ⟨v0, v1, v2, v3, v4⟩, ⟨s0, s1, s2, s3, s4⟩, ⟨u0, u1, u2, u3, u4⟩, t0, t1, t2, t3, t4⟩ := g
  clear VA VB HVA HVB
  go_wp2_with fail
  go_region_held_law (fun W => Below w6.heap.size w6 W ∧ (W.cell? ⟨b, off, none⟩ = some (.int .i64 1) ∧ W.cell? ⟨b, off + 1, none⟩ = some (.int .i64 2) ∧ W.cell? ⟨b, off + 2, none⟩ = some (.int .u64 0) ∧ W.cell? ⟨b, off + 3, none⟩ = some (.int .u64 2) ∧ W.cell? ⟨b, off + 4, none⟩ = some (.int .i64 0)) ∧ (W.cell? ⟨b, off + 5, none⟩ = some (.int .i64 2) ∧ W.cell? ⟨b, off + 5 + 1, none⟩ = some (.int .i64 2) ∧ W.cell? ⟨b, off + 5 + 2, none⟩ = some (.int .u64 0) ∧ W.cell? ⟨b, off + 5 + 3, none⟩ = some (.int .u64 2) ∧ W.cell? ⟨b, off + 5 + 4, none⟩ = some (.int .i64 0)) ∧ (W.cell? ⟨R, 0, none⟩ = some (.int .i64 1) ∧ W.cell? ⟨R, 1, none⟩ = some (.int .i64 2) ∧ W.cell? ⟨R, 2, none⟩ = some (.int .u64 0) ∧ W.cell? ⟨R, 3, none⟩ = some (.int .u64 2) ∧ W.cell? ⟨R, 4, none⟩ = some (.int .i64 0)) ∧ (W.cell? ⟨R + 1, 0, none⟩ = some (.int .i64 2) ∧ W.cell? ⟨R + 1, 1, none⟩ = some (.int .i64 2) ∧ W.cell? ⟨R + 1, 2, none⟩ = some (.int .u64 0) ∧ W.cell? ⟨R + 1, 3, none⟩ = some (.int .u64 2) ∧ W.cell? ⟨R + 1, 4, none⟩ = some (.int .i64 0)))
    (first | exact HK.out _ (by with_reducible assumption) | exact HK.out _ hk1 | exact HK.out _ hk0 | exact HK.out _ (Below.alloc hk1 hk1.size _) | exact HK.out _ (Below.alloc hk0 hk0.size _) | exact HK.out _ (Below.alloc (Below.alloc hk0 hk0.size _) (by simp) _) | exact HK.out _ (Below.drew (Below.alloc (Below.alloc hk0 hk0.size _) (by simp) _)))
    (first
    | (go_at_call 23; with_reducible refine C1.out.mono ?_; rintro e w9 ⟨rfl, hb9⟩)
    | (go_at_call 23; with_reducible refine C2.out.mono ?_; rintro e w9 ⟨rfl, hb9⟩))
  all_goals
    have B9 := hide (bmore B6.out hb9)
    go_wp2
    go_ret
    exact ⟨rfl, B9.out⟩

end Go.Proofs.Ytkkcchklefcljaa.Clep
