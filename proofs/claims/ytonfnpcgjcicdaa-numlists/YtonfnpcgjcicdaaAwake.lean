/- What the statements' own function awake answers when called: true, in new memory alone. No conditions. -/
import Derived.Test.YtonfnpcgjcicdaaPut
import Derived.Laws.BytesArg
namespace Go.Proofs.Ytonfnpcgjcicdaa.Clep
open Go.RowKit
set_option linter.unusedVariables false

theorem conv_bs {w : World} {ao : Option Addr} {len cap : Nat} {zs : List Int} (h : Bs w ao len cap zs) :
    (convert 23 9 (.slice ao len cap)).run Try.prog w = .ok (.string (strOfNums zs)) w := by
  cases ao with
  | none =>
    obtain ⟨rfl, rfl⟩ := h.2.1.2 rfl
    have hz : zs = [] := List.eq_nil_of_length_eq_zero h.1
    subst hz
    exact run_convert_bytes_nil w 23 5 Try.underlying23 Try.underlying5 0 0 9 Try.underlying9
  | some a =>
    have hl : (loadCells a len).run Try.prog w = .ok (zs.map (Value.int .u8)).toArray w := by
      have := run_loadCells_list (P := Try.prog) w a (bv zs) (bs_cells h a rfl)
      rw [bv_len, h.1] at this
      exact this
    rw [run_convert_bytes_string w 23 9 5 _ len cap Try.underlying23 Try.underlying5 Try.underlying9, run_bytesToString w _ len cap zs hl, foldl_push_bytes]
    simp [strOfNums, ByteArray.empty, ByteArray.emptyWithCapacity]
    rfl

theorem range_of {zs : List Int} (h : ∀ z ∈ zs, 0 ≤ z ∧ z < 256) : ∀ i, 0 ≤ zs.getD i 0 ∧ zs.getD i 0 < 256 := by
  intro i
  rcases Nat.lt_or_ge i zs.length with hi | hi
  · have : zs.getD i 0 = zs[i] := by simp [List.getD, List.getElem?_eq_getElem hi]
    rw [this]; exact h _ (List.getElem_mem hi)
  · have : zs.getD i 0 = 0 := by simp [List.getD, List.getElem?_eq_none hi]
    rw [this]; omega
theorem bs_nil (w : World) : Bs w none 0 0 [] := ⟨rfl, ⟨Nat.le_refl _, fun _ => ⟨rfl, rfl⟩⟩, range_of (by simp), fun h => by omega⟩

theorem bs_new (w : World) : Bs (w.alloc (.cells #[.int .u8 172, .int .u8 2, .int .u8 9] 5)) (some ⟨w.heap.size, 0, none⟩) 3 3 [172, 2, 9] := by
  refine ⟨rfl, ⟨Nat.le_refl _, fun h => by cases h⟩, range_of (by decide), fun _ => ⟨w.heap.size, 0, rfl, fun i hi => ?_⟩⟩
  match i, hi with
  | 0, _ => simp
  | 1, _ => simp
  | 2, _ => simp

set_option maxHeartbeats 800000 in
theorem awake_any (w : World) : Calls Try.prog 11 #[] w fun e w' => e = .returned (.bool true) ∧ Below w.heap.size w w' := by
  go_enter Try.func11, Try.ntmps11
  go_wp2_with fail
  refine (take_any _ 3 3 [172, 2, 9] _ (by omega) (bs_new w)).mono ?_
  rw [show tk [172, 2, 9] 0 0 = (300, 2, 0) from by decide]
  rintro e w1 ⟨rfl, rfl⟩
  unfold tup
  go_wp2_with fail
  refine (put_any none 0 0 [] _ 300 (by omega) (by omega) (by omega) (bs_nil _)).mono ?_
  rw [show ([] : List Int) ++ pu 300 = [172, 2] from by decide]
  rintro e w2 ⟨v, rfl, ho, hb⟩
  obtain ⟨ao, cap, rfl, _, hbs, hwhere⟩ := own_bs ho (range_of (by decide))
  have hcv : (convert 23 9 (.slice ao 2 cap)).run Try.prog w2 = .ok (.string ⟨#[172, 2]⟩) w2 := by
    have := conv_bs hbs
    rw [show strOfNums [172, 2] = ⟨#[172, 2]⟩ from by decide] at this
    exact this
  have HB := hide hb
  clear hb ho hbs hwhere
  go_wp2_with fail
  refine (sign_any (-1) _ (by omega) (by omega)).mono ?_
  rw [show sgn (-1) = 1 from by decide]
  rintro e w3 ⟨rfl, rfl⟩
  go_wp2_with fail
  refine (unsign_any 2 _ (by omega) (by omega)).mono ?_
  rw [show usgn 2 = 1 from by decide]
  rintro e w4 ⟨rfl, rfl⟩
  go_wp2
  go_ret
  exact ⟨rfl, ((Below.refl _ _).alloc (Nat.le_refl _) _).trans (HB.out.mono (by simp))⟩

end Go.Proofs.Ytonfnpcgjcicdaa.Clep
