/- What the statements' own function awake answers when called: true, in new memory alone. No conditions. -/
import Derived.Test.YtcgfopkoalnjkaaZs
import Derived.Test.YtcgfopkoalnjkaaZw
import Derived.Deep.RegionHeldLaw
namespace Go.Proofs.Ytcgfopkoalnjkaa.Clep
open Go.RowKit
set_option linter.unusedVariables false

def x0 : It := ⟨1, 2, 0, 2, 0⟩
theorem x0_wf : ∀ x ∈ [x0], x.wf := by intro x hx; rw [List.mem_singleton.1 hx]; unfold x0 It.wf; simp
theorem x0_fit : fit [x0] = true := by rw [fit_iff]; exact ⟨by simp, by simp, by unfold Rise; simp⟩
theorem x0_ok : [x0].all It.ok = true := by kernel_rfl
def z25 : Array Value := madeCells (Value.cells (.agg #[.int .i64 0, .int .i64 0, .int .u64 0, .int .u64 0, .int .i64 0])) (5 * 5)
theorem make5 (w : World) : (Instr.makeSlice 23 (.int .i64 5) (.int .i64 5)).run Try.prog w = .ok (.slice (some ⟨w.heap.size, 0, none⟩) 5 5) (w.alloc (.cells z25 41)) := by
  obtain ⟨i, hi, hz0, hz1, hz2⟩ := info_parts infoI
  rw [run_make w 23 41 i _ Try.underlying23 hi hz0 .i64 .i64 5 5 (by omega) (by omega) (by rw [hz2]; omega) (by omega), hz1]
  rfl
def o5 : It := ⟨0, 0, 0, 0, 0⟩
theorem z25_lit : z25 = (cvs [o5, o5, o5, o5, o5]).toArray := by kernel_rfl
theorem is_five (w : World) (g : Nat) (h : w.heap[g]? = some (.cells z25 41)) : Is w (some ⟨g, 0, none⟩) 5 5 [o5, o5, o5, o5, o5] := by
  have hc : ∀ i u, (cvs [o5, o5, o5, o5, o5])[i]? = some u → w.cell? ⟨g, i, none⟩ = some u := fun i u hu => by
    simp only [World.cell?, h, z25_lit]
    simpa using hu
  refine ⟨rfl, ⟨by omega, fun h => by cases h⟩, fun x hx => ?_, fun _ => ⟨g, 0, rfl, fun i x hi => ?_⟩⟩
  · have : x = o5 := by simp at hx; exact hx
    rw [this]; unfold o5 It.wf; simp
  · have hx : x = o5 := by
      have := List.mem_of_getElem? hi
      simp at this; exact this
    have hi5 : i < 5 := by
      have := (List.getElem?_eq_some_iff.1 hi).1
      simpa using this
    have hg : ∀ j, j < 5 → w.cell? ⟨g, 0 + i * 5 + j, none⟩ = (cv x)[j]? := fun j hj => by
      have e := cvs_get [o5, o5, o5, o5, o5] i j x hi hj
      obtain ⟨u, hu⟩ : ∃ u, (cv x)[j]? = some u := ⟨_, List.getElem?_eq_getElem (by simpa [cv] using hj)⟩
      rw [hu] at e ⊢
      rw [Nat.zero_add]
      exact hc _ u e
    exact ⟨hg 0 (by omega), hg 1 (by omega), hg 2 (by omega), hg 3 (by omega), hg 4 (by omega)⟩
set_option maxRecDepth 100000 in
set_option maxHeartbeats 4000000 in
theorem awake_core (w : World) (l : List It) (hwf : ∀ x ∈ l, x.wf) (hf : fit l = true) (hk : l.all It.ok = true) (hl1 : l.length = 1) (hx0 : l[0]? = some x0)
    (hone : ∀ w1 : World, Is (w1.alloc (Obj.cells #[.int .i64 1, .int .i64 2, .int .u64 0, .int .u64 2, .int .i64 0] 41)) (some ⟨w1.heap.size, 0, none⟩) 1 1 l) :
    Calls Try.prog 8 #[] w fun e w' => e = .returned (.bool true) ∧ Below w.heap.size w w' := by
  have A0 := (Below.refl _ w).alloc (Nat.le_refl _) (Obj.cells #[.int .i64 1, .int .i64 2, .int .u64 0, .int .u64 2, .int .i64 0] 41)
  have V0 := hide (vi_new w 1 2 0 2 0)
  obtain ⟨w1, hw1⟩ : ∃ w1, w1 = w.alloc (Obj.cells #[.int .i64 1, .int .i64 2, .int .u64 0, .int .u64 2, .int .i64 0] 41) := ⟨_, rfl⟩
  rw [← hw1] at A0 V0
  have A1 := (Below.refl _ w1).alloc (Nat.le_refl _) (Obj.cells #[.int .i64 1, .int .i64 2, .int .u64 0, .int .u64 2, .int .i64 0] 41)
  have hP := hide (bput_any none _ 0 0 1 1 [] l _ (by omega) (by omega) (bs_nil _) (hone w1))
  have hs1 : w1.heap.size = w.heap.size + 1 := by rw [hw1]; simp
  rw [hs1] at hP
  clear hs1
  have HA := hide (bmore A0 A1)
  have HV := hide (V0.out.keep A1)
  have hbk := isB_bkb l [] hwf hf hk
  rw [List.append_nil] at hbk
  have hfew := ibn_few l (by omega)
  have hlen := bkb_len l
  have hrng := hide (bkb_range l hwf (by omega))
  have hb0 := hide (bme_of hf hk)
  have HWF := hide hwf
  have HX0 := hide hx0
  have hln := hbk.2.2
  have HB := hide hbk.1
  have HBX := hide hbk.2.1
  obtain ⟨Y, hY⟩ : ∃ Y, bkb l = Y := ⟨_, rfl⟩
  rw [hY] at hP hln HB HBX hlen hrng
  generalize (ibn l).length = N at *
  generalize bme l = bm at *
  obtain ⟨L, hL⟩ : ∃ L, Y.length = L := ⟨_, rfl⟩
  have HL := hide hL
  have hlN : Hid (((0 : Nat) : Int) + 12 + ln Y = (L : Int)) := hide (by rw [hln]; omega)
  have hL9 : L ≤ 4000 := by omega
  clear A0 A1 V0 hbk hfew hY hlen hln hf hk hwf hx0 hL hone
  go_enter Try.func8, Try.ntmps8
  go_wp2_with fail
  rw [← hw1]
  obtain ⟨R, hR⟩ : ∃ R, w.heap.size = R := ⟨_, rfl⟩
  rw [hR] at HV hP ⊢
  generalize w1.alloc (Obj.cells #[.int .i64 1, .int .i64 2, .int .u64 0, .int .u64 2, .int .i64 0] 41) = w2 at *
  refine hP.out.mono ?_
  rintro e w3 ⟨hb3, ⟨h9, -⟩ | ⟨-, v, rfl, ho⟩⟩
  · exact absurd hb0.out h9
  rw [List.nil_append] at ho
  obtain ⟨a3, c3, rfl, hc3, hbs, -⟩ := own_bs ho (range_of hrng.out)
  rw [HL.out] at hbs ⊢
  have hT := btake_any a3 L c3 Y 0 w3 (by omega) hbs (by omega) Y List.drop_zero.symm
  rw [hlN.out] at hT
  have HT := hide hT
  have HB3 := hide (bmore HA.out hb3)
  replace HV := hide (HV.out.keep hb3)
  have hPn := hide (fun W => bput_any none none 0 0 0 0 [] [] W (by omega) (by omega) (bs_nil _) (is_nil _))
  clear hP ho hbs hT hb3 HA hw1 hlN
  go_wp2_with fail
  refine HT.out.mono ?_
  rintro e w4 ⟨hb4, ⟨h9, -⟩ | ⟨-, v, rfl, ho⟩⟩
  · rw [HB.out] at h9; cases h9
  rw [HBX.out] at ho
  obtain ⟨a4, c4, rfl, hc4, hI, -⟩ := ownI_is ho HWF.out
  obtain ⟨b, off, rfl, hcell⟩ := hI.2.2.2 (by omega)
  have V4 := hide (hcell 0 x0 HX0.out)
  have HB4 := hide (bmore HB3.out hb4)
  replace HV := hide (HV.out.keep hb4)
  clear HT ho hI hcell HB3 hb4
  rw [hl1]
  go_wp2_with fail
  refine (hPn.out _).mono ?_
  rintro e w5 ⟨hb5, h9⟩
  rw [show bme [] = 1 from by unfold bme; simp] at h9
  rcases h9 with ⟨-, rfl⟩ | ⟨h9, -⟩
  case inr => exact absurd h9 (by decide)
  have V5 := hide (V4.out.keep hb5)
  have HB5 := hide (bmore HB4.out hb5)
  replace HV := hide (HV.out.keep hb5)
  unfold x0 at V5
  clear hPn V4 HB4 hb5
  have HK : Hid (∀ W, Below w5.heap.size w5 W → (Below w5.heap.size w5 W ∧ (W.cell? ⟨b, off, none⟩ = some (.int .i64 1) ∧ W.cell? ⟨b, off + 1, none⟩ = some (.int .i64 2) ∧ W.cell? ⟨b, off + 2, none⟩ = some (.int .u64 0) ∧ W.cell? ⟨b, off + 3, none⟩ = some (.int .u64 2) ∧ W.cell? ⟨b, off + 4, none⟩ = some (.int .i64 0)) ∧
      W.cell? ⟨R, 0, none⟩ = some (.int .i64 1) ∧ W.cell? ⟨R, 1, none⟩ = some (.int .i64 2) ∧ W.cell? ⟨R, 2, none⟩ = some (.int .u64 0) ∧ W.cell? ⟨R, 3, none⟩ = some (.int .u64 2) ∧ W.cell? ⟨R, 4, none⟩ = some (.int .i64 0))) := hide fun W hW => by
    have q1 := V5.out.keep hW
    have q2 := HV.out.keep hW
    unfold Vi at q1 q2
    simp only [Nat.zero_mul, Nat.add_zero, Nat.zero_add] at q1 q2
    exact ⟨hW, q1, q2⟩
  have hmk := make5
  have hC : Hid (∀ W, Below w5.heap.size w5 W → Calls Try.prog 17 #[.slice (some ⟨W.heap.size, 0, none⟩) 5 5, .int .i64 2] (W.alloc (.cells z25 41)) fun e w' => ∃ a c, e = .returned (.slice a 3 c) ∧ Below w5.heap.size w5 w') := hide fun W hW =>
    (bcut_any _ 5 5 _ 2 _ (is_five _ _ (hpS W _ _ rfl)) (by omega) (by omega)).mono fun e w' ⟨a, c, he, hb, _⟩ => ⟨a, c, he, (hW.alloc hW.size _).trans (hb.mono (by have := hW.size; simp; omega))⟩
  have hk0 : Below w5.heap.size w5 w5 := Below.refl _ _
  have hk1 : Below w5.heap.size w5 w5.drew := hk0.drew
  have g := HK.out _ hk0
  obtain ⟨-, ⟨v0, v1, v2, v3, v4⟩, u0, u1, u2, u3, u4⟩ := g
  clear V5 HV
  go_wp2_with fail
  go_region_held_law (fun W => Below w5.heap.size w5 W ∧ (W.cell? ⟨b, off, none⟩ = some (.int .i64 1) ∧ W.cell? ⟨b, off + 1, none⟩ = some (.int .i64 2) ∧ W.cell? ⟨b, off + 2, none⟩ = some (.int .u64 0) ∧ W.cell? ⟨b, off + 3, none⟩ = some (.int .u64 2) ∧ W.cell? ⟨b, off + 4, none⟩ = some (.int .i64 0)) ∧
      W.cell? ⟨R, 0, none⟩ = some (.int .i64 1) ∧ W.cell? ⟨R, 1, none⟩ = some (.int .i64 2) ∧ W.cell? ⟨R, 2, none⟩ = some (.int .u64 0) ∧ W.cell? ⟨R, 3, none⟩ = some (.int .u64 2) ∧ W.cell? ⟨R, 4, none⟩ = some (.int .i64 0))
    (first | exact HK.out _ (by with_reducible assumption) | exact HK.out _ hk1 | exact HK.out _ hk0 | exact HK.out _ (Below.alloc hk1 hk1.size _) | exact HK.out _ (Below.alloc hk0 hk0.size _))
    (first
    | (go_at_call 17; refine (hC.out _ (by first | (with_reducible assumption) | exact hk1 | exact hk0)).mono ?_; rintro e w' ⟨a9, c9, rfl, hb9⟩))
  all_goals
    go_wp2
    go_ret
    exact ⟨rfl, bmore HB5.out hb9⟩
theorem awake_any (w : World) : Calls Try.prog 8 #[] w fun e w' => e = .returned (.bool true) ∧ Below w.heap.size w w' :=
  awake_core w [x0] x0_wf x0_fit x0_ok rfl rfl (fun w1 => is_one w1 1 2 0 2 0 (x0_wf _ (by simp [x0])))

end Go.Proofs.Ytcgfopkoalnjkaa.Clep
