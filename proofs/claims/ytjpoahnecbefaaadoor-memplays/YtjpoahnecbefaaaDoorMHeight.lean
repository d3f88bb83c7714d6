/- What mem.Height, math/bits.TrailingZeros64 and the statements' own height do when called: for any item. Conditions: the kinds' own bounds; the table of math/bits reads as its initialiser lays it. -/
import Derived.Test.YtjpoahnecbefaaaDoorMRef
import Derived.Test.YtjpoahnecbefaaaDoorMShelf
import Derived.Lib.TrailingZeros
import Derived.Laws.Bits64b
namespace Go.Proofs.YtjpoahnecbefaaaDoor.Clep
open Go.RowKit
set_option linter.unusedVariables false

/-- The table in its variable, the program's first. -/
def Tab (w : World) : Prop := ∀ j, j < 64 → w.cell? ⟨0, j, none⟩ = some (.int .u8 (Go.Lib.deBruijn64tab.getD j 0 : Nat))
theorem Tab.lt {w : World} (h : Tab w) : 0 < w.heap.size := World.block_lt_of_cell? w _ (h 0 (by decide))
theorem Tab.below {w w' : World} {B : Nat} (h : Tab w) (hb : Below B w w') (hB : 0 < B) : Tab w' := fun j hj => by
  rw [World.cell?_of_block (a := ⟨0, j, none⟩) (hb.block 0 hB)]; exact h j hj
theorem Tab.keep {w w' : World} (h : Tab w) (hb : Below w.heap.size w w') : Tab w' := h.below hb h.lt

theorem tz_any (x : Nat) (hx : x < 18446744073709551616) (w : World) (hT : Tab w) :
    Calls Tryd.prog 34 #[.int .u64 x] w fun e w' => e = .returned (.int .i64 (Go.Lib.ctz 64 x : Nat)) ∧ w' = w :=
  Any7.bits_TrailingZeros64 Tryd.tzA x hx w fun _ j hj => hT j hj

/-- How high an item stands. -/
def hgt (S K T : Int) : Nat := min (1 + Go.Lib.ctz 64 (fnv (kb S K T)) / 2) 6
theorem hgt_le (S K T : Int) : 1 ≤ hgt S K T ∧ hgt S K T ≤ 6 := by unfold hgt; omega

set_option maxRecDepth 100000 in
set_option maxHeartbeats 1000000 in
theorem height_any (S K T V X : Int) (w : World) (hT : 0 ≤ T ∧ T ≤ 18446744073709551615) (hTb : Tab w) :
    Calls Tryd.prog 18 #[.agg #[.int .i64 S, .int .i64 K, .int .u64 T, .int .u64 V, .int .i64 X]] w fun e w' => e = .returned (.int .i64 (hgt S K T : Nat)) ∧ Below w.heap.size w w' := by
  have A1 := (Below.refl _ w).alloc (Nat.le_refl _) (Obj.cells #[Value.int IntKind.i64 S, Value.int IntKind.i64 K, Value.int IntKind.u64 T, Value.int IntKind.u64 V, Value.int IntKind.i64 X] 32)
  have V1 := vi_new w S K T V X
  obtain ⟨w1, hw1⟩ : ∃ w1, w1 = w.alloc (Obj.cells #[Value.int IntKind.i64 S, Value.int IntKind.i64 K, Value.int IntKind.u64 T, Value.int IntKind.u64 V, Value.int IntKind.i64 X] 32) := ⟨_, rfl⟩
  rw [← hw1] at A1 V1
  have B1 := hide A1
  have HT1 := hide (hTb.keep A1)
  have C1 := hide (key_any S K T V X w1 hT)
  have hE := hide (show ((hgt S K T : Nat) : Int) = min (1 + ((Go.Lib.ctz 64 (fnv (kb S K T)) : Nat) : Int) / 2) 6 by unfold hgt; omega)
  have hcz : Go.Lib.ctz 64 (fnv (kb S K T)) ≤ 64 := by
    by_cases h0 : fnv (kb S K T) = 0
    · rw [h0]; decide
    · exact Nat.le_of_lt (Go.Lib.lowest_bit 64 _ h0 (fnv_lt _)).2
  clear A1 V1 hTb
  go_enter Tryd.func18, Tryd.ntmps18
  go_wp2_with fail
  rw [← hw1]
  clear hw1
  refine C1.out.mono ?_
  rintro e w2 ⟨v, rfl, o, b⟩
  obtain ⟨ao, cap, rfl, hbs⟩ := ownAt_bs o (kb_range S K T)
  rw [show ([S % 256, K % 256] ++ e8 T 8).length = 10 from kb_len S K T] at hbs ⊢
  have B2 := hide (bmore B1.out b)
  have HT2 := hide (HT1.out.keep b)
  have C2 := hide (hash_any ao 10 cap (kb S K T) w2 (by omega) hbs)
  clear o b hbs C1
  go_wp2_with fail
  refine C2.out.mono ?_
  rintro e w3 ⟨rfl, rfl⟩
  have C3 := hide (tz_any _ (fnv_lt (kb S K T)) w3 HT2.out)
  clear C2
  go_wp2_with fail
  refine C3.out.mono ?_
  rintro e w4 ⟨rfl, rfl⟩
  clear C3
  generalize Go.Lib.ctz 64 (fnv (kb S K T)) = c at *
  go_wp2
  · have e6 : min (1 + (c : Int) / 2) 6 = 6 := by omega
    go_ret
    exact ⟨by rw [hE.out, e6]; rfl, B2.out⟩
  · have e6 : min (1 + (c : Int) / 2) 6 = 1 + (c : Int) / 2 := by omega
    go_ret
    exact ⟨by rw [hE.out, e6]; rfl, B2.out⟩

/-- How many of the lowest bits are both 0, two by two, at most f. -/
def hl : Nat → Nat → Nat
  | 0, _ => 0
  | f + 1, C => if C % 4 = 0 then 1 + hl f (C / 4) else 0
theorem hl_zero : ∀ f, hl f 0 = f
  | 0 => rfl
  | f + 1 => by
    show (if (0 : Nat) % 4 = 0 then 1 + hl f (0 / 4) else 0) = f + 1
    rw [if_pos rfl, show (0 : Nat) / 4 = 0 from rfl, hl_zero f]; omega
theorem hl_from : ∀ (f g C : Nat), 2 * f ≤ g → C ≠ 0 → hl f C = min f (Go.Lib.ctzFrom g C / 2)
  | 0, g, C, _, _ => by simp [hl]
  | f + 1, g, C, hg, hC => by
    obtain ⟨g', rfl⟩ : ∃ g', g = g' + 1 + 1 := ⟨g - 2, by omega⟩
    show (if C % 4 = 0 then 1 + hl f (C / 4) else 0) = min (f + 1) ((if C % 2 = 1 then 0 else 1 + (if C / 2 % 2 = 1 then 0 else 1 + Go.Lib.ctzFrom g' (C / 2 / 2))) / 2)
    by_cases h4 : C % 4 = 0
    · rw [if_pos h4, if_neg (by omega), if_neg (by omega), show C / 2 / 2 = C / 4 from by omega, hl_from f g' (C / 4) (by omega) (by omega)]
      omega
    · rw [if_neg h4]
      split
      · simp
      · rw [if_pos (by omega)]; simp
theorem hl_ctz (C : Nat) : 1 + hl 5 C = min (1 + Go.Lib.ctz 64 C / 2) 6 := by
  unfold Go.Lib.ctz
  by_cases h : C = 0
  · subst h; rw [hl_zero, if_pos rfl]; omega
  · rw [if_neg h, hl_from 5 64 C (by omega) h]; omega
theorem and3 (C : Nat) (h : C < 18446744073709551616) : bits BinOp.and IntKind.u64 (C : Int) 3 = ((C % 4 : Nat) : Int) := by
  rw [show (3 : Int) = ((3 : Nat) : Int) from rfl, bits_and_u64_nat C 3 h (by omega), show (3 : Nat) = 2 ^ 2 - 1 from rfl, Nat.and_two_pow_sub_one_eq_mod]

set_option maxRecDepth 100000 in
set_option maxHeartbeats 1000000 in
theorem refheight_any (S K T V X : Int) (w : World) (hT : 0 ≤ T ∧ T ≤ 18446744073709551615) :
    Calls Tryd.prog 19 #[.agg #[.int .i64 S, .int .i64 K, .int .u64 T, .int .u64 V, .int .i64 X]] w fun e w' => e = .returned (.int .i64 (hgt S K T : Nat)) ∧ Below w.heap.size w w' := by
  have A1 := (Below.refl _ w).alloc (Nat.le_refl _) (Obj.cells #[Value.int IntKind.i64 S, Value.int IntKind.i64 K, Value.int IntKind.u64 T, Value.int IntKind.u64 V, Value.int IntKind.i64 X] 32)
  obtain ⟨w1, hw1⟩ : ∃ w1, w1 = w.alloc (Obj.cells #[Value.int IntKind.i64 S, Value.int IntKind.i64 K, Value.int IntKind.u64 T, Value.int IntKind.u64 V, Value.int IntKind.i64 X] 32) := ⟨_, rfl⟩
  rw [← hw1] at A1
  have B1 := hide A1
  have C1 := hide (refkey_any S K T V X w1 hT)
  have hsz : (strOfNums (kb S K T)).size = 10 := by rw [str_size, kb_len]
  have HS := hide (sz_of _ (range_of (kb_range S K T)))
  clear A1
  have hE := hide (show 1 + hl 5 (fnv (kb S K T)) = hgt S K T from hl_ctz _)
  go_enter Tryd.func19, Tryd.ntmps19
  go_wp2_with fail
  rw [← hw1]
  clear hw1
  refine C1.out.mono ?_
  rintro e w2 ⟨rfl, b⟩
  have B2 := hide (bmore B1.out b)
  have C2 := hide (refhash_any (strOfNums (kb S K T)) (kb S K T) w2 (by rw [hsz]; omega) HS.out (kb_range S K T))
  clear b C1
  go_wp2_with fail
  refine C2.out.mono ?_
  rintro e w3 ⟨rfl, rfl⟩
  clear C2 hsz
  have hlt := fnv_lt (kb S K T)
  generalize fnv (kb S K T) = C0 at *
  go_wp2_with fail
  go_loop [3, 4] (fun v i => ∃ k C : Nat, 1 ≤ k ∧ k ≤ 6 ∧ i = .int .i64 k ∧ v = .int .u64 C ∧ C < 18446744073709551616 ∧ Hid (k + hl (6 - k) C = 1 + hl 5 C0)) (fun _ i => 6 - (intOf i).toNat)
  case atStart => exact ⟨1, C0, by omega, by omega, rfl, rfl, hlt, hide rfl⟩
  case round =>
    obtain ⟨k, C, hk1, hk, rfl, rfl, hC, hI⟩ := hrel
    by_cases hlk : k < 6
    · have ha := and3 C hC
      have hu := hide (show hl (6 - k) C = if C % 4 = 0 then 1 + hl (6 - (k + 1)) (C / 4) else 0 by rw [show 6 - k = (6 - (k + 1)) + 1 from by omega]; rfl)
      by_cases h4 : C % 4 = 0
      · have ha2 : (bits BinOp.and IntKind.u64 (C : Int) 3 == 0) = true := by rw [ha, h4]; rfl
        have hI' := hide (show k + 1 + hl (6 - (k + 1)) (C / 4) = 1 + hl 5 C0 by have := hI.out; rw [hu.out, if_pos h4] at this; omega)
        clear hu ha h4
        go_wp2
        go_round
        case rel => exact ⟨k + 1, C / 4, by omega, by omega, by go_num, by go_num, by omega, hI'⟩
        case measure => simp [intOf]; omega
      · have ha2 : (bits BinOp.and IntKind.u64 (C : Int) 3 == 0) = false := by rw [ha]; simp; omega
        have hI' := hide (show k = 1 + hl 5 C0 by have := hI.out; rw [hu.out, if_neg h4] at this; omega)
        clear hu ha h4
        go_wp2
        go_ret
        exact ⟨by rw [← hE.out, ← hI'.out]; rfl, B2.out⟩
    · have h6 : k = 6 := by omega
      subst h6
      have hI' := hide (show 6 = 1 + hl 5 C0 from hI.out)
      go_wp2
      go_ret
      exact ⟨by rw [← hE.out, ← hI'.out]; rfl, B2.out⟩

end Go.Proofs.YtjpoahnecbefaaaDoor.Clep
