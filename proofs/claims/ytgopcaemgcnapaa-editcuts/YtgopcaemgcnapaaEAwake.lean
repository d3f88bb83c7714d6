/- What the statements' own awake does when called (a walk over the translated program): it answers true. -/
import Derived.Test.YtgopcaemgcnapaaEApplyP
namespace Go.Proofs.Ytgopcaemgcnapaa.Clep
open Go.RowKit
set_option linter.unusedVariables false
set_option maxRecDepth 10000

theorem apr_some {V : Vw} {w w' : World} {e : Ending} (h : ApR (some V) w e w') : ∃ a c, e = .returned (.tuple #[vwV a V.f.length c V, .bool true]) ∧ c ≤ 9223372036854775807 ∧ OwnF w' w.heap.size (.slice a V.f.length c) V.f ∧ Fs w' a V.f.length c V.f ∧ Below w.heap.size w w' := by
  obtain ⟨⟨a, c, he, ho, hf⟩, hb⟩ := h
  refine ⟨a, c, he, ?_, ho, hf, hb⟩
  obtain ⟨a', c', e2, hc, _, _⟩ := ownF_fs ho hf.2.2.1
  injection e2 with _ _ e3
  rw [e3]
  exact hc
theorem zs_block {w : World} {p : Nat} {N : Int} (hw : -9223372036854775808 ≤ N ∧ N ≤ 9223372036854775807) (h : w.heap[p]? = some (.cells #[.int .i64 N] 3)) : Zs w (some ⟨p, 0, none⟩) 1 1 [N] := by
  refine ⟨rfl, ⟨Nat.le_refl _, fun h => by cases h⟩, fun x hx => by rw [List.mem_singleton.1 hx]; exact hw, fun _ => ⟨p, 0, rfl, fun i x hi => ?_⟩⟩
  cases i with
  | zero =>
    simp at hi
    subst hi
    simp [World.cell?, h]
  | succ i => simp at hi
def aE1 : Ed := ⟨[], [⟨0, 2⟩], 1, 0, 0, 0, 0⟩
def aV1 : Vw := ⟨1, [⟨0, 2⟩], 0, 0, 0, 0⟩
def aE2 : Ed := ⟨[2], [], 0, 0, 0, 0, 0⟩
def aV2 : Vw := ⟨1, [], 0, 0, 0, 0⟩
theorem awk1 : appl zV aE1 = some aV1 := by kernel_rfl
theorem awk2 : appl aV1 aE2 = some aV2 := by kernel_rfl
set_option maxHeartbeats 1000000 in
theorem awake_any (w : World) : Calls Try.prog 13 #[] w fun e w' => e = .returned (.bool true) ∧ Below w.heap.size w w' := by
  have C1 := hide (show ∀ W : World, W.heap[w.heap.size]? = some (.cells #[.int .i64 0, .int .i64 2] 29) → Calls Try.prog 9 #[.agg #[.int .i64 0, .slice none 0 0, .int .u64 0, .int .u64 0, .int .u64 0, .int .u64 0], .agg #[.slice none 0 0, .slice (some ⟨w.heap.size, 0, none⟩) 1 1, .int .i64 1, .int .u64 0, .int .u64 0, .int .u64 0, .int .u64 0]] W fun e w' => ∃ a c, e = .returned (.tuple #[.agg #[.int .i64 1, .slice a 1 c, .int .u64 0, .int .u64 0, .int .u64 0, .int .u64 0], .bool true]) ∧ Fs w' a 1 c [⟨0, 2⟩] ∧ Below W.heap.size W w' from fun W hW =>
    (apply_any none none (some ⟨w.heap.size, 0, none⟩) 0 0 0 0 1 1 zV aE1 W (fs_nil W) (zs_nil W) (fs_block (by unfold Fi.wf; decide) hW) (by omega) (by omega) (by omega) rfl).mono fun e w' h => by
      rw [awk1] at h
      obtain ⟨a, c, he, hc, ho, hf, hb⟩ := apr_some h
      exact ⟨a, c, he, hf, hb⟩)
  have C2 := hide (show ∀ (W : World) (p : Nat) a c, Fs W a 1 c [⟨0, 2⟩] → W.heap[p]? = some (.cells #[.int .i64 2] 3) → Calls Try.prog 9 #[.agg #[.int .i64 1, .slice a 1 c, .int .u64 0, .int .u64 0, .int .u64 0, .int .u64 0], .agg #[.slice (some ⟨p, 0, none⟩) 1 1, .slice none 0 0, .int .i64 0, .int .u64 0, .int .u64 0, .int .u64 0, .int .u64 0]] W fun e w' => ∃ a c, e = .returned (.tuple #[.agg #[.int .i64 1, .slice a 0 c, .int .u64 0, .int .u64 0, .int .u64 0, .int .u64 0], .bool true]) ∧ c ≤ 9223372036854775807 ∧ Fs w' a 0 c [] ∧ Below W.heap.size W w' from fun W p a c hF hW =>
    (apply_any a (some ⟨p, 0, none⟩) none 1 c 1 1 0 0 aV1 aE2 W hF (zs_block (by omega) hW) (fs_nil W) (by omega) (by omega) (by omega) rfl).mono fun e w' h => by
      rw [awk2] at h
      obtain ⟨a, c, he, hc, ho, hf, hb⟩ := apr_some h
      exact ⟨a, c, he, hc, hf, hb⟩)
  have C3 := hide (show ∀ (W : World) a c, c ≤ 9223372036854775807 → Fs W a 0 c [] → Calls Try.prog 22 #[.agg #[.int .i64 1, .slice a 0 c, .int .u64 0, .int .u64 0, .int .u64 0, .int .u64 0]] W fun e w' => e = .returned (.bool true) ∧ Below W.heap.size W w' from fun W a c hc hF =>
    (ok_any a 0 c aV2 W hF (by omega) hc).mono fun e w' ⟨he, hb⟩ => ⟨he, hb⟩)
  have A0 := hide ((Below.refl w.heap.size w).alloc (Nat.le_refl _) (Obj.cells #[.int .i64 0, .int .i64 2] 29))
  go_enter Try.func13, Try.ntmps13
  go_wp2_with fail
  refine (C1.out _ (fhpS w _ _ rfl)).mono ?_
  rintro e w1 ⟨a1, c1, rfl, hf1, hb1⟩
  have B1 := hide (A0.out.trans (hb1.mono A0.out.size))
  have A1 := (Below.refl w1.heap.size w1).alloc (Nat.le_refl _) (Obj.cells #[.int .i64 1, .slice a1 1 c1, .int .u64 0, .int .u64 0, .int .u64 0, .int .u64 0] 26)
  have A2 := A1.alloc A1.size (Obj.cells #[.int .i64 2] 3)
  have HF1 := hide (hf1.below A2 (Nat.le_refl _))
  have B2 := hide (B1.out.trans (A2.mono B1.out.size))
  have HP := hide (fhpS (w1.alloc (Obj.cells #[.int .i64 1, .slice a1 1 c1, .int .u64 0, .int .u64 0, .int .u64 0, .int .u64 0] 26)) (Obj.cells #[.int .i64 2] 3) (w1.heap.size + 1) (by simp))
  have HK := hide (show ∀ W, Below (w1.heap.size + 1) ((w1.alloc (Obj.cells #[.int .i64 1, .slice a1 1 c1, .int .u64 0, .int .u64 0, .int .u64 0, .int .u64 0] 26)).alloc (Obj.cells #[.int .i64 2] 3)) W → W.cell? ⟨w1.heap.size, 1, none⟩ = some (.slice a1 1 c1) from fun W hW => ((ek_old (ek_new w1 #[.int .i64 1, .slice a1 1 c1, .int .u64 0, .int .u64 0, .int .u64 0, .int .u64 0] 26) _).below hW (by omega)).cell rfl)
  have HSZ := hide (show w1.heap.size + 1 ≤ ((w1.alloc (Obj.cells #[.int .i64 1, .slice a1 1 c1, .int .u64 0, .int .u64 0, .int .u64 0, .int .u64 0] 26)).alloc (Obj.cells #[.int .i64 2] 3)).heap.size by simp)
  clear hf1 hb1 A1 A2 C1
  go_wp2_with fail
  refine (C2.out _ (w1.heap.size + 1) a1 c1 HF1.out HP.out).mono ?_
  rintro e w2 ⟨a2, c2, rfl, hc2, hf2, hb2⟩
  have B3 := hide (B2.out.trans (hb2.mono B2.out.size))
  have A3 := (Below.refl w2.heap.size w2).alloc (Nat.le_refl _) (Obj.cells #[.int .i64 1, .slice a2 0 c2, .int .u64 0, .int .u64 0, .int .u64 0, .int .u64 0] 26)
  have B4 := hide (B3.out.trans (A3.mono B3.out.size))
  have HF2 := hide (hf2.below A3 (Nat.le_refl _))
  have k1 := HK.out _ (hb2.mono HSZ.out)
  have hlt : w1.heap.size < w2.heap.size := Nat.lt_of_lt_of_le (Nat.lt_of_lt_of_le (Nat.lt_succ_self _) HSZ.out) hb2.size
  clear hf2 hb2 A3 C2 HF1 HP HK
  go_wp2_with fail
  refine (C3.out _ a2 c2 hc2 HF2.out).mono ?_
  rintro e w3 ⟨rfl, hb3⟩
  have B5 := hide (B4.out.trans (hb3.mono B4.out.size))
  clear hb3 C3
  go_wp2
  go_ret
  exact ⟨rfl, B5.out⟩

end Go.Proofs.Ytgopcaemgcnapaa.Clep
