/- The document's own Filter in memory; what its NewFilter, place, Add, Has and the statements' own ones do when called. No conditions but the kinds' bounds. -/
import Derived.Test.YtjphnflahpcaiaaBBytes
namespace Go.Proofs.Ytjphnflahpcaiaa.Clep
open Go.RowKit
set_option linter.unusedVariables false

/-- The document's Filter in block R: its bits are the bytes that (ao, sz, cap) leads to. -/
structure Rf (w : World) (R : Nat) (ao : Option Addr) (cap k sz N : Nat) : Prop where
  head : Blk w R #[.int .i64 k, .slice ao sz cap] 43
  bits : Bs w ao sz cap (bys N sz)
/-- One whose bits are all of block D. -/
structure Rw (w : World) (R D k sz N : Nat) : Prop where
  head : Blk w R #[.int .i64 k, .slice (some ⟨D, 0, none⟩) sz sz] 43
  bits : Blk w D (bv (bys N sz)).toArray 5
  ne : D ≠ R
theorem bys_get (N n j : Nat) (h : j < n) : (bys N n).getD j 0 = (by8 N j : Int) := by simp [bys, List.getD, h]
theorem bvb_get (N n j : Nat) (h : j < n) : (bv (bys N n)).toArray[j]? = some (.int .u8 (by8 N j : Nat)) := by simp [bv, bys, h]
theorem bvb_set (N p n : Nat) (h : p / 8 < n) : (bv (bys N n)).toArray.setIfInBounds (p / 8) (.int .u8 ((by8 N (p / 8) ||| 2 ^ (p % 8) : Nat) : Int)) = (bv (bys (N ||| 2 ^ p) n)).toArray := by
  refine Array.ext_getElem? fun i => ?_
  by_cases hi : i < n
  · rw [bvb_get _ _ _ hi, by8_or]
    by_cases e : i = p / 8
    · subst e
      rw [Array.getElem?_setIfInBounds_self_of_lt (by simpa [bv, bys] using h)]
      simp
    · rw [Array.getElem?_setIfInBounds_ne (Ne.symm e), bvb_get _ _ _ hi]
      simp [e]
  · rw [Array.getElem?_eq_none (by simp [bv, bys]; omega), Array.getElem?_eq_none (by simp [bv, bys]; omega)]
theorem Rw.rf {w : World} {R D k sz N : Nat} (h : Rw w R D k sz N) : Rf w R (some ⟨D, 0, none⟩) sz k sz N :=
  ⟨h.head, by rw [bys_len], ⟨Nat.le_refl _, fun e => by cases e⟩, range_of (bys_range N sz), fun h0 => ⟨D, 0, rfl, fun i hi => by rw [Nat.zero_add, h.bits.cell (bvb_get N sz i hi), bys_get N sz i hi]⟩⟩
theorem Rf.keep {w w' : World} {R : Nat} {ao : Option Addr} {cap k sz N : Nat} (h : Rf w R ao cap k sz N) (hb : Below w.heap.size w w') : Rf w' R ao cap k sz N := ⟨h.head.keep hb, h.bits.below hb (Nat.le_refl _)⟩
theorem Rw.keep {w w' : World} {R D k sz N : Nat} (h : Rw w R D k sz N) (hb : Below w.heap.size w w') : Rw w' R D k sz N := ⟨h.head.keep hb, h.bits.keep hb, h.ne⟩
theorem Rw.ch {P : Nat → Prop} {w w' : World} {R D k sz N : Nat} (h : Rw w R D k sz N) (hc : Ch P w w') (h1 : ¬ P R) (h2 : ¬ P D) : Rw w' R D k sz N := ⟨h.head.ch hc h1, h.bits.ch hc h2, h.ne⟩

theorem makeB (w : World) (n : Nat) (hn : n ≤ 30000) : (Instr.makeSlice 27 (.int .i64 n) (.int .i64 n)).run Try.prog w = .ok (.slice (some ⟨w.heap.size, 0, none⟩) n n) (w.alloc (.cells (bv (bys 0 n)).toArray 5)) := by
  obtain ⟨i, hi, hz0, hz1, hz2⟩ := info_parts info5
  rw [run_make w 27 5 i _ Try.underlying27 hi hz0 .i64 .i64 n n (by omega) (by omega) (by rw [hz2]; omega) (by omega), hz1]
  have e : madeCells (Value.cells (.int .u8 0)) ((n : Int).toNat * 1) = (bv (bys 0 n)).toArray := by
    rw [Nat.mul_one, Int.toNat_natCast]
    have h1 : Value.cells (.int .u8 0) = #[Value.int .u8 0] := by kernel_rfl
    rw [h1]
    unfold madeCells bv bys
    refine Array.ext (by simp) fun j h1 h2 => ?_
    simp [Nat.mod_one, by8_zero]
  rw [e, Int.toNat_natCast]
theorem refnew_bad (n b : Int) (w : World) (h : szOk n b = false) :
    Calls Try.prog 13 #[.int .i64 n, .int .i64 b] w fun e w' => e = .returned (.pointer none) ∧ w' = w := by
  have hc : n < 0 ∨ 10000 < n ∨ b < 1 ∨ 20 < b := by
    simp only [szOk, Bool.and_eq_false_iff, decide_eq_false_iff_not] at h; omega
  clear h
  go_enter Try.func13, Try.ntmps13
  by_cases h1 : n < 0
  · go_wp2
    go_ret
    exact ⟨rfl, rfl⟩
  · by_cases h2 : 10000 < n
    · go_wp2
      go_ret
      exact ⟨rfl, rfl⟩
    · by_cases h3 : b < 1
      · go_wp2
        go_ret
        exact ⟨rfl, rfl⟩
      · have h4 : 20 < b := by omega
        go_wp2
        go_ret
        exact ⟨rfl, rfl⟩
theorem refnew_done (w w1 : World) (n b : Nat) (K S : Int) (L : Nat) (hn : n ≤ 10000) (hb : 1 ≤ b ∧ b ≤ 20) (hK : K = (kOf b : Nat)) (hL : L = sOf n b) (hw : w1 = w.alloc (.cells (bv (bys 0 L)).toArray 5)) :
    Rw (w1.alloc (.cells #[.int .i64 K, .slice (some ⟨w.heap.size, 0, none⟩) L L] 43)) w1.heap.size w.heap.size (kOf b) (sOf n b) 0 ∧
      Below w.heap.size w (w1.alloc (.cells #[.int .i64 K, .slice (some ⟨w.heap.size, 0, none⟩) L L] 43)) := by
  subst hK hL
  have hA := (Below.refl _ w).alloc (Nat.le_refl _) (.cells (bv (bys 0 (sOf n b))).toArray 5)
  have hsz : w1.heap.size = w.heap.size + 1 := by rw [hw]; simp
  have hB : Blk w1 w.heap.size (bv (bys 0 (sOf n b))).toArray 5 := by rw [hw]; exact hpS w _ _ rfl
  rw [← hw] at hA
  have hA2 := (Below.refl _ w1).alloc (Nat.le_refl _) (.cells #[.int .i64 (kOf b : Nat), .slice (some ⟨w.heap.size, 0, none⟩) (sOf n b) (sOf n b)] 43)
  exact ⟨⟨hpS w1 _ _ rfl, hB.keep hA2, by omega⟩, bmore hA hA2⟩
set_option maxRecDepth 100000 in
theorem refnew_ok (n b : Nat) (w : World) (hn : n ≤ 10000) (hb : 1 ≤ b ∧ b ≤ 20) :
    Calls Try.prog 13 #[.int .i64 n, .int .i64 b] w fun e w' => ∃ R, e = .returned (.pointer (some ⟨R, 0, none⟩)) ∧ ∃ D, Rw w' R D (kOf b) (sOf n b) 0 ∧ Below w.heap.size w w' ∧ w.heap.size ≤ R ∧ w.heap.size ≤ D := by
  have hnb : n * b ≤ 10000 * 20 := Nat.mul_le_mul hn hb.2
  have hs := sOf_range n b hn hb.2
  have hmk : (Instr.makeSlice 27 (.int .i64 (sOf n b : Nat)) (.int .i64 (sOf n b : Nat))).run Try.prog w = _ := makeB w (sOf n b) (by omega)
  obtain ⟨w1, hw1⟩ : ∃ w1, w1 = w.alloc (.cells (bv (bys 0 (sOf n b))).toArray 5) := ⟨_, rfl⟩
  rw [← hw1] at hmk
  have HW := hide hw1
  have hsz : w.heap.size ≤ w1.heap.size := by rw [hw1]; simp
  clear hw1
  have fin : Hid (∀ K : Int, K = (kOf b : Nat) → Rw (w1.alloc (.cells #[.int .i64 K, .slice (some ⟨w.heap.size, 0, none⟩) (sOf n b) (sOf n b)] 43)) w1.heap.size w.heap.size (kOf b) (sOf n b) 0 ∧
      Below w.heap.size w (w1.alloc (.cells #[.int .i64 K, .slice (some ⟨w.heap.size, 0, none⟩) (sOf n b) (sOf n b)] 43))) := hide fun K hK => refnew_done w w1 n b K 0 (sOf n b) hn hb hK rfl HW.out
  clear HW
  by_cases hc : n * b < 64
  · have e2 : (n : Int) * (b : Int) < 64 := by rw [← Int.natCast_mul]; omega
    have e3 : ((sOf n b : Nat) : Int) = 8 := by unfold sOf; omega
    rw [e3] at hmk
    generalize sOf n b = L at *
    go_enter Try.func13, Try.ntmps13
    go_wp2
    all_goals first
      | (exfalso; omega)
      | (go_ret; exact ⟨w1.heap.size, rfl, w.heap.size, (fin.out _ (by unfold kOf; omega)).1, (fin.out _ (by unfold kOf; omega)).2, hsz, Nat.le_refl _⟩)
  · by_cases hc2 : n * b = 64
    · have e2 : (n : Int) * (b : Int) = 64 := by rw [← Int.natCast_mul]; omega
      have e3 : ((sOf n b : Nat) : Int) = 8 := by unfold sOf; omega
      rw [e3] at hmk
      generalize sOf n b = L at *
      go_enter Try.func13, Try.ntmps13
      go_wp2
      all_goals first
        | (exfalso; omega)
        | (go_ret; exact ⟨w1.heap.size, rfl, w.heap.size, (fin.out _ (by unfold kOf; omega)).1, (fin.out _ (by unfold kOf; omega)).2, hsz, Nat.le_refl _⟩)
    · have e2 : 64 < (n : Int) * (b : Int) := by rw [← Int.natCast_mul]; omega
      have e3 : ((sOf n b : Nat) : Int) = ((n : Int) * (b : Int) + 7) / 8 := by unfold sOf; rw [← Int.natCast_mul]; omega
      rw [e3] at hmk
      generalize sOf n b = L at *
      go_enter Try.func13, Try.ntmps13
      go_wp2
      all_goals first
        | (exfalso; omega)
        | (go_ret; exact ⟨w1.heap.size, rfl, w.heap.size, (fin.out _ (by unfold kOf; omega)).1, (fin.out _ (by unfold kOf; omega)).2, hsz, Nat.le_refl _⟩)

end Go.Proofs.Ytjphnflahpcaiaa.Clep
